/- Contract of (*disk.Disk).Crash. -/
import Derived.Test.YtkkjbljhehnmjaaGreatDoorDkLand
namespace Go.Proofs.YtkkjbljhehnmjaaGreatDoor
open Go.RowKit

/-- The sectors behind the loose Write number i of a crash. -/
def land1 (ks : List Bool) (tn : Int) (F : Nat → List UInt8) (i : Nat) (x : Nat × List UInt8) : Nat → List UInt8 :=
  if ks.getD i false = true then upd F x.1 (torn (F x.1) x.2 (decide ((i : Int) = tn))) else F
/-- The sectors behind the first k loose Writes of a crash. -/
def landN (ks : List Bool) (tn : Int) (F : Nat → List UInt8) (L : List (Nat × List UInt8)) (k : Nat) : Nat → List UInt8 :=
  ((L.zipIdx).take k).foldl (fun F p => land1 ks tn F p.2 p.1) F
theorem landN_zero (ks : List Bool) (tn : Int) (F : Nat → List UInt8) (L : List (Nat × List UInt8)) : landN ks tn F L 0 = F := rfl
theorem landN_succ (ks : List Bool) (tn : Int) (F : Nat → List UInt8) (L : List (Nat × List UInt8)) (k : Nat) (hk : k < L.length) : landN ks tn F L (k + 1) = land1 ks tn (landN ks tn F L k) k L[k] := by
  unfold landN
  rw [List.take_succ_eq_append_getElem (by simpa using hk), List.foldl_append]
  simp
/-- What is read behind a crash: the sectors of the loose Writes as they now are. -/
def reread (F C : Nat → List UInt8) (L : List (Nat × List UInt8)) : Nat → List UInt8 := L.foldl (fun C x => upd C x.1 (F x.1)) C
theorem reread_take (F C : Nat → List UInt8) (L : List (Nat × List UInt8)) (k : Nat) (hk : k < L.length) : reread F C (L.take (k + 1)) = upd (reread F C (L.take k)) L[k].1 (F L[k].1) := by
  unfold reread
  rw [List.take_succ_eq_append_getElem hk, List.foldl_append]
  rfl
/-- A []bool that is handed over: what it holds, apart from the blocks on the list. -/
def KeepAt (w : World) (f : List Nat) (a : Option Addr) (ks : List Bool) : Prop :=
  ∀ i, i < ks.length → ∃ kb ko, a = some ⟨kb, ko, none⟩ ∧ kb ∉ f ∧ kb < w.heap.size ∧ w.cell? ⟨kb, ko + i, none⟩ = some (.bool (ks.getD i false))
theorem KeepAt.keep {f : List Nat} {w w2 : World} {a : Option Addr} {ks : List Bool} (h : KeepAt w f a ks) (k : Kp f w w2) : KeepAt w2 f a ks := fun i hi => by
  obtain ⟨kb, ko, h1, h2, h3, h4⟩ := h i hi
  exact ⟨kb, ko, h1, h2, k.lt h3, by rw [k.cell (p := ⟨kb, ko + i, none⟩) h3 h2]; exact h4⟩

/-- The disk behind a crash. -/
def Dk.crash (S : Dk) (ks : List Bool) (tn : Int) : Dk :=
  { S with F := landN ks tn S.F S.L S.L.length, C := reread (landN ks tn S.F S.L S.L.length) S.C S.L, L := [], dead := false, cut := false, left := 0 }

attribute [local go_sem ↓] Go.wp_at_zero Go.wp_at_succ wp_load_write
set_option maxHeartbeats 3200000 in
set_option maxRecDepth 20000 in
theorem crash_any {w : World} {b bf bc : Nat} {lv : Value} {S : Dk} (h : DkAt w b bf bc lv S) (hL : S.L.length < 4294967296) (ka : Option Addr) (kc : Nat) (ks : List Bool)
    (hk : KeepAt w (foot b bf bc lv) ka ks) (tn : Int) :
    Calls Tryz.prog 20 #[.pointer (some ⟨b, 0, none⟩), .slice ka ks.length kc, .int .i64 tn] w fun e w2 => e = .returned (.tuple #[]) ∧ DkAt w2 b bf bc (.slice none 0 0) (S.crash ks tn) ∧ Kp (foot b bf bc lv) w w2 := by
  have h2 := h.c2
  obtain ⟨a, cap, rfl⟩ := h.form
  have HH := Lib.hid h
  have HKeep := Lib.hid hk
  clear h hk
  go_enter Tryz.func20, Tryz.ntmps20
  go_wp2
  go_loopw [15] (fun i wr => ∃ k : Nat, k ≤ S.L.length ∧ i = .int .i64 k ∧ DkAt wr b bf bc (.slice a S.L.length cap) { S with F := landN ks tn S.F S.L k } ∧ Kp (foot b bf bc (.slice a S.L.length cap)) w wr) (fun i _ => S.L.length - (intOf i).toNat)
  case atStart => exact ⟨0, Nat.zero_le _, rfl, HH.out, Kp.refl _ _⟩
  case round =>
    obtain ⟨k, hk, rfl, D, K⟩ := hrel
    by_cases hlt : k < S.L.length
    · have hkn : (k : Int) < (S.L.length : Int) := by omega
      have hk0 : (0 : Int) ≤ (k : Int) := by omega
      obtain ⟨g, rfl, hr⟩ := owns_range D.ls (fun x hx => (D.lok x hx).2) k hlt
      obtain ⟨hx1, hx2⟩ := D.lok _ (List.getElem_mem hlt)
      simp only at hr hx1 hx2
      have hcl : (cellsW S.L[k]).length = 65 := by simp [cellsW, hx2]
      have h1c : ∀ v ∈ cellsW S.L[k], v.oneCell' = true := cellsW_one _ _
      have hp : ptrRow wr (.pointer (some ⟨g, k * 65, none⟩)) 65 := ⟨g, k * 65, _, rfl, hr, hcl⟩
      have hpc : ptrCells wr (.pointer (some ⟨g, k * 65, none⟩)) 65 = (cellsW S.L[k]).toArray := ptrCells_of hr hcl
      have hst := store_new wr (cellsW S.L[k]) hcl h1c
      have D1 : DkAt (wr.alloc (wBlk S.L[k].1 S.L[k].2)) b bf bc _ _ := D.new ((Kp.refl [] wr).alloc _)
      have K1 : Kp (foot b bf bc (.slice (some ⟨g, 0, none⟩) S.L.length cap)) w (wr.alloc (wBlk S.L[k].1 S.L[k].2)) := K.alloc _
      have hblk : (wr.alloc (wBlk S.L[k].1 S.L[k].2)).heap[wr.heap.size]? = some (wBlk S.L[k].1 S.L[k].2) := heap_alloc_new wr _
      obtain ⟨r1, -⟩ := range_wBlk hblk
      have hp2 : ptrRow (wr.alloc (wBlk S.L[k].1 S.L[k].2)) (.pointer (some ⟨wr.heap.size, 0, none⟩)) 65 := ⟨_, 0, _, rfl, r1, hcl⟩
      have hpc2 : ptrCells (wr.alloc (wBlk S.L[k].1 S.L[k].2)) (.pointer (some ⟨wr.heap.size, 0, none⟩)) 65 = (cellsW S.L[k]).toArray := ptrCells_of r1 hcl
      have hwb : wr.alloc (.cells (cellsW S.L[k]).toArray 97) = wr.alloc (wBlk S.L[k].1 S.L[k].2) := rfl
      rw [hwb] at hst
      have HKeep1 := Lib.hid (HKeep.out.keep K1)
      have HD1 := Lib.hid D1
      have HK1 := Lib.hid K1
      have HK := Lib.hid K
      have HD := Lib.hid D
      have Hx1 := Lib.hid hx1
      have Hx2 := Lib.hid hx2
      clear D1 K1 hblk K D hwb hx1 hx2 hr r1
      by_cases hin : k < ks.length
      · obtain ⟨kb, ko, rfl, hkf, hkl, hkc⟩ := HKeep1.out k hin
        have hin2 : (k : Int) < (ks.length : Int) := by omega
        clear hkf hkl
        cases hkv : ks.getD k false
        · rw [hkv] at hkc
          have Hkv := Lib.hid hkv
          clear hkv
          go_wp2
          go_roundw
          case rel =>
            refine ⟨k + 1, by omega, by go_num, ?_, HK1.out⟩
            rw [landN_succ _ _ _ _ _ hlt]
            unfold land1
            rw [if_neg (by rw [Hkv.out]; decide)]
            exact HD1.out
          case measure => simp [intOf]; omega
        · rw [hkv] at hkc
          have Hkv := Lib.hid hkv
          clear hkv
          go_wp2_with (go_at_call 56; refine (land_any HD1.out S.L[k].1 Hx1.out S.L[k].2 Hx2.out _).mono ?_; rintro e w2 ⟨rfl, D2, K2⟩; have HD2 := Lib.hid D2; have HK2 := Lib.hid K2; clear D2 K2)
          go_roundw
          case rel =>
            refine ⟨k + 1, by omega, by go_num, ?_, HK1.out.trans HK2.out⟩
            rw [landN_succ _ _ _ _ _ hlt]
            unfold land1
            rw [if_pos Hkv.out]
            exact HD2.out
          case measure => simp [intOf]; omega
      · have hin2 : (ks.length : Int) ≤ (k : Int) := by omega
        go_wp2
        go_roundw
        case rel =>
          refine ⟨k + 1, by omega, by go_num, ?_, HK1.out⟩
          rw [landN_succ _ _ _ _ _ hlt]
          unfold land1
          rw [if_neg (by rw [List.getD_eq_getElem?_getD, List.getElem?_eq_none (by omega)]; decide)]
          exact HD1.out
        case measure => simp [intOf]; omega
    · have hkl : k = S.L.length := by omega
      subst hkl
      have g2 := D.c2
      have HD := Lib.hid D
      have HK := Lib.hid K
      clear D K h2
      generalize hFN : landN ks tn S.F S.L S.L.length = FN at *
      have HFN := Lib.hid hFN
      clear hFN
      go_wp2
      go_loopw [42] (fun i wr => ∃ k : Nat, k ≤ S.L.length ∧ i = .int .i64 k ∧ DkAt wr b bf bc (.slice a S.L.length cap) { S with F := FN, C := reread FN S.C (S.L.take k) } ∧ Kp (foot b bf bc (.slice a S.L.length cap)) w wr) (fun i _ => S.L.length - (intOf i).toNat)
      case atStart => exact ⟨0, Nat.zero_le _, rfl, HD.out, HK.out⟩
      case round =>
        clear HD HK hk g2 hlt
        obtain ⟨k, hk, rfl, D, K⟩ := hrel
        by_cases hlt : k < S.L.length
        · have hkn : (k : Int) < (S.L.length : Int) := by omega
          have hk0 : (0 : Int) ≤ (k : Int) := by omega
          obtain ⟨g, rfl, hr⟩ := owns_range D.ls (fun x hx => (D.lok x hx).2) k hlt
          obtain ⟨hx1, hx2⟩ := D.lok _ (List.getElem_mem hlt)
          simp only at hr hx1 hx2
          have hcl : (cellsW S.L[k]).length = 65 := by simp [cellsW, hx2]
          have h1c : ∀ v ∈ cellsW S.L[k], v.oneCell' = true := cellsW_one _ _
          have hp : ptrRow wr (.pointer (some ⟨g, k * 65, none⟩)) 65 := ⟨g, k * 65, _, rfl, hr, hcl⟩
          have hpc : ptrCells wr (.pointer (some ⟨g, k * 65, none⟩)) 65 = (cellsW S.L[k]).toArray := ptrCells_of hr hcl
          have hst := store_new wr (cellsW S.L[k]) hcl h1c
          have hTb : wr.heap.size ≠ b := fun e => by have := D.lb; omega
          have hTc : wr.heap.size ≠ bc := fun e => by have := D.lc; omega
          have hbc : b ≠ bc := fun e => D.ne2 e.symm
          have hfc : bf ≠ bc := D.ne3
          have D1 : DkAt (wr.alloc (wBlk S.L[k].1 S.L[k].2)) b bf bc _ _ := D.new ((Kp.refl [] wr).alloc _)
          have K1 : Kp (foot b bf bc (.slice (some ⟨g, 0, none⟩) S.L.length cap)) w (wr.alloc (wBlk S.L[k].1 S.L[k].2)) := K.alloc _
          have hblk : (wr.alloc (wBlk S.L[k].1 S.L[k].2)).heap[wr.heap.size]? = some (wBlk S.L[k].1 S.L[k].2) := heap_alloc_new wr _
          have c0 := D1.c0
          have c1 := D1.c1
          have cT : (wr.alloc (wBlk S.L[k].1 S.L[k].2)).cell? ⟨wr.heap.size, 0, none⟩ = some (.int .i64 (S.L[k].1 : Int)) := by rw [cell_wBlk hblk]; rfl
          obtain ⟨hl64, rF, -⟩ := D1.fs S.L[k].1 hx1
          have th := (D1.cs S.L[k].1 hx1).2.2
          simp only at c0 c1 hl64 rF
          have hwb : wr.alloc (.cells (cellsW S.L[k]).toArray 97) = wr.alloc (wBlk S.L[k].1 S.L[k].2) := rfl
          rw [hwb] at hst
          have hu65 := Tryz.underlying95
          have hi65 : (Tryz.prog.info? 95).map (·.size) = some (bytesV (FN S.L[k].1)).length := by rw [bytesV_length, hl64]; kernel_rfl
          have hlb : (bytesV (FN S.L[k].1)).length = 64 := by rw [bytesV_length, hl64]
          have h1d := bytesV_one (FN S.L[k].1)
          have hg1 : ((S.L[k].1 : Nat) : Int) < (S.n : Int) := by omega
          have hg0 : (0 : Int) ≤ ((S.L[k].1 : Nat) : Int) := by omega
          have Hl64 := Lib.hid hl64
          have HD1 := Lib.hid D1
          have HK1 := Lib.hid K1
          have Hx1 := Lib.hid hx1
          clear D1 K1 hblk K D hwb hx1 hx2 hr hl64
          generalize cellsW S.L[k] = cw at *
          generalize hcs : bytesV (FN S.L[k].1) = cs at *
          have Hcs := Lib.hid hcs
          clear hcs
          go_wp2
          clear hst hp hpc h1c hcl
          generalize wr.heap.size = T at *
          generalize wr.alloc (wBlk S.L[k].1 S.L[k].2) = W2 at *
          generalize hq : S.L[k].1 = q at *
          have Hq := Lib.hid hq
          clear hq
          go_region_held3 (fun w' => w'.cell? ⟨b, 1, none⟩ = some (.slice (some ⟨bc, 0, none⟩) S.n S.n) ∧ w'.cell? ⟨b, 0, none⟩ = some (.slice (some ⟨bf, 0, none⟩) S.n S.n) ∧ w'.cell? ⟨T, 0, none⟩ = some (.int .i64 (q : Int)) ∧ w'.rangeAt bf (q * 64) cs ∧ w'.there bc (q * 64) 64) (first | go_keep_ranges | (go_split_ands; exact ⟨by (rw [cell_setCells_far _ _ _ _ _ _ hbc]; first | assumption | (simp; assumption)), by (rw [cell_setCells_far _ _ _ _ _ _ hbc]; first | assumption | (simp; assumption)), by (rw [cell_setCells_far _ _ _ _ _ _ hTc]; first | assumption | (simp; assumption)), by (refine World.rangeAt_setCells_apart ?_ _ _ _ (.inl hfc); first | assumption | (simp; assumption)), by (refine World.there_setCells ?_ _ _ _; first | assumption | (simp; assumption))⟩)) (fail)
          go_wp2
          go_roundw
          case rel =>
            have D3 := (HD1.out.new (Kp.refl [] W2).drew).setC (k := q) Hx1.out Hl64.out
            rw [Hcs.out] at D3
            refine ⟨k + 1, by omega, by go_num, ?_, HK1.out.drew.setCells (.inl (by simp [foot])) _ _⟩
            rw [reread_take FN S.C S.L k hlt, Hq.out]
            exact D3
          case measure => simp [intOf]; omega
        · have hkl : k = S.L.length := by omega
          subst hkl
          have g2 := D.c2
          have f2 := D.fr 2
          have g4 := D.c4
          have f4 := D.fr 4
          have D4 := Lib.hid (D.clearL.set4 false)
          have HK := Lib.hid K
          have n2 : b ≠ bf := fun e => D.ne1 e.symm
          clear D K
          go_wp2_with (go_at_call 23; refine (cut_any D4.out (-1)).mono ?_; rintro e w2 ⟨rfl, D5, K5⟩; have HD5 := Lib.hid D5; have HK5 := Lib.hid K5; clear D5 K5)
          go_end0
          refine ⟨rfl, ?_, ?_⟩
          · have D := HD5.out
            rw [List.take_of_length_le (Nat.le_refl _), ← HFN.out] at D
            exact D
          · exact ((HK.out.setCell (.inl (by simp [foot])) _).setCell (.inl (by simp [foot])) _).trans (HK5.out.mono (by simp [foot, Value.ownBlock]))
end Go.Proofs.YtkkjbljhehnmjaaGreatDoor
