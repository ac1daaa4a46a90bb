/- Contract of (*disk.Disk).Write where the Write is done: the walk. -/
import Derived.Test.YtggnljfcdohkaaaGreatDoorDkWr
import Derived.Test.YtggnljfcdohkaaaGreatDoorDkSet
import Derived.Deep.RegionLaw
import Derived.Deep.DrawnRows
namespace Go.Proofs.YtggnljfcdohkaaaGreatDoor
open Go.RowKit

attribute [local go_sem ↓] Go.wp_at_zero Go.wp_at_succ wp_load_write wp_buildSlice_write
attribute [local go_sem] rowOf_agg
/-- The disk behind a Write that is done. -/
def Dk.write (S : Dk) (k : Nat) (l : List UInt8) : Dk :=
  { S with C := upd S.C k l, L := S.L ++ [(k, l)], writes := S.writes + 1, left := if S.cut then S.left - 1 else S.left }
/-- What a call that may change the disk comes to, beside its answer. -/
def DkThen (b bf bc : Nat) (lv : Value) (S2 : Dk) (w w2 : World) : Prop :=
  ∃ lv2, DkAt w2 b bf bc lv2 S2 ∧ Kp (foot b bf bc lv) w w2 ∧ ∀ g, lv2.ownBlock = some g → lv.ownBlock = some g ∨ w.heap.size ≤ g
theorem setI {w : World} {a : Addr} {x y : Int} (h : x = y) : w.setCell a (.int .i64 x) = w.setCell a (.int .i64 y) := by rw [h]
set_option maxHeartbeats 1600000 in
set_option maxRecDepth 20000 in
theorem write_ok (w : World) (b bf bc : Nat) (lv : Value) (S : Dk) (h : DkAt w b bf bc lv S) (k : Nat) (hk : k < S.n) (s : ByteArray) (hs : s.size ≤ 64) (hd : S.dead = false) (hcut : S.cut = false ∨ 0 < S.left) (hW : S.writes < 4611686018427387904) (hLf : S.left ≤ 9223372036854775807) (hL : S.L.length < 4294967296) :
    Calls Tryz.prog 60 #[.pointer (some ⟨b, 0, none⟩), .int .i64 k, .string s] w fun e w2 => e = .returned .nilIface ∧ DkThen b bf bc lv (S.write k (fillUp s)) w w2 := by
  cases hcv : S.cut
  all_goals
    have h4 := h.c4
    rw [hd] at h4
    have h5 := h.c5
    rw [hcv] at h5
    have h1 := h.c1
    have h6 := h.c6
    have hst := store_w k w
    have hcp := copy_w k s hs w
    have hkn : (k : Int) < (S.n : Int) := by omega
    have hk0 : (0 : Int) ≤ (k : Int) := by omega
    have hleft := hcut
    rw [hcv] at hleft
    have Hc := Lib.hid hcv
    clear hd hcut hcv
    -- the world behind the block of the new Write
    have hfl := fillUp_length s hs
    generalize hl : fillUp s = l at hfl hcp
    have D1 : DkAt (w.alloc (wBlk k l)) b bf bc lv S := h.new ((Kp.refl [] w).alloc _)
    have hblk : (w.alloc (wBlk k l)).heap[w.heap.size]? = some (wBlk k l) := heap_alloc_new w _
    have K1 : Kp [] w (w.alloc (wBlk k l)) := (Kp.refl [] w).alloc _
    have hsz1 : w.heap.size < (w.alloc (wBlk k l)).heap.size := by simp
    have HL := Lib.hid hl
    have HD := Lib.hid h
    have HD1 := Lib.hid D1
    have Hblk := Lib.hid hblk
    have HK1 := Lib.hid K1
    clear h D1 hblk hl K1
    have Hleft := Lib.hid hleft
    clear hleft
    go_enter Tryz.func60, Tryz.ntmps60
    go_wp2_with (go_at_call 82; refine (may_ok b S.n S.n k s.size _ _ S.left _ h4 h1 (by omega) (by omega) (by omega) h5 h6 Hleft.out).mono ?_; rintro e w' ⟨rfl, rfl⟩)
    clear hcp hst h4 h5 h6
    have D1 := HD1.out
    have hblk := Hblk.out
    have K1 := HK1.out
    clear HD1 Hblk HK1
    have hTb : w.heap.size ≠ b := fun e => by have := HD.out.lb; omega
    have hTc : w.heap.size ≠ bc := fun e => by have := HD.out.lc; omega
    generalize hT : w.heap.size = T at *
    generalize w.alloc (wBlk k l) = W2 at *
    have h1 := D1.c1
    obtain ⟨r1, r2⟩ := range_wBlk hblk
    have th := (D1.cs k hk).2.2
    have hbc : b ≠ bc := fun e => HD.out.ne2 e.symm
    have hu65 := Tryz.underlying89
    have hi65 : (Tryz.prog.info? 89).map (·.size) = some (bytesV l).length := by rw [bytesV_length, hfl]; kernel_rfl
    have hlb : (bytesV l).length = 64 := by rw [bytesV_length, hfl]
    have h1c := bytesV_one l
    have HD1 := Lib.hid D1
    have Hblk := Lib.hid hblk
    have HK1 := Lib.hid K1
    have Hr1 := Lib.hid r1
    have Hfl := Lib.hid hfl
    clear D1 hblk K1 r1 hfl
    generalize hcs : bytesV l = cs at *
    have Hcs := Lib.hid hcs
    clear hcs
    have HT := Lib.hid hT
    clear hT
    go_region_held3 (fun w' => w'.cell? ⟨b, 1, none⟩ = some (.slice (some ⟨bc, 0, none⟩) S.n S.n) ∧ w'.rangeAt T 1 cs ∧ w'.there bc (k * 64) 64) (first | go_keep_ranges | (go_split_ands; exact ⟨by (rw [cell_setCells_far _ _ _ _ _ _ hbc]; first | assumption | (simp; assumption)), by (refine World.rangeAt_setCells_apart ?_ _ _ _ (.inl hTc); first | assumption | (simp; assumption)), by (refine World.there_setCells ?_ _ _ _; first | assumption | (simp; assumption))⟩)) (fail)
    go_wp2_with fail
    have D3 := (HD1.out.new (Kp.refl [] W2).drew).setC hk Hfl.out
    rw [Hcs.out] at D3
    have blk3 : (W2.drew.setCells bc (k * 64) cs).heap[T]? = some (wBlk k l) := by rw [heap_setCells _ _ _ _ _ hTc]; exact Hblk.out
    have K3 : Kp [bc] w (W2.drew.setCells bc (k * 64) cs) := ((HK1.out.mono (g := [bc]) (by simp)).drew).setCells (.inl (by simp)) _ _
    have sz3 : T < (W2.drew.setCells bc (k * 64) cs).heap.size := by rw [size_setCells]; exact hsz1
    clear r2 th hu65 hi65 hlb h1c hsz1
    clear HK1 Hblk HD1 h1
    generalize W2.drew.setCells bc (k * 64) cs = W3 at *
    obtain ⟨r1, -⟩ := range_wBlk blk3
    have h2 := D3.c2
    have hlc : (cellsW (k, l)).length = 65 := by simp [cellsW, Hfl.out]
    have hu67 := Tryz.underlying91
    have hi67 : (Tryz.prog.info? 91).map (·.size) = some (cellsW (k, l)).length := by rw [hlc]; kernel_rfl
    have h1c := cellsW_one k l
    obtain ⟨i0, hi0, hz0, hz1, hz2⟩ := info_parts infoWrite
    have Hi0 := Lib.hid hi0
    clear hi0
    have hown := D3.ls
    have hg4 : 7 ≤ W3.heap.size := by have := D3.lb; have := D3.hb; omega
    have HD3 := Lib.hid D3
    have HK3 := Lib.hid K3
    have Hb3 := Lib.hid blk3
    clear D3 K3 blk3
    have hf2 := HD3.out.fr 2
    have hbl : some b ≠ lv.ownBlock := fun e => (HD3.out.nl b e.symm).1 rfl
    have hTl : some T ≠ lv.ownBlock := fun e => by have := (HD.out.ll T e.symm).2; have := HT.out; omega
    have hlb : b < W3.heap.size := HD3.out.lb
    generalize hcw : cellsW (k, l) = cw at *
    have Hcw := Lib.hid hcw
    clear hcw
    have hn1 : S.L.length + 1 ≤ maxLen := by unfold maxLen; omega
    have hn2 : (S.L.length + 1) * 72 ≤ 140737488355328 := by omega
    have hc2 : W3.cell? ⟨b, 2, none⟩ = some lv := h2
    have hp : ptrRow W3.drew (.pointer (some ⟨T, 0, none⟩)) 65 := ⟨T, 0, cw, rfl, by simpa using r1, hlc⟩
    have hpc : ptrCells W3.drew (.pointer (some ⟨T, 0, none⟩)) 65 = cw.toArray := ptrCells_of (by simpa using r1) hlc
    have hrv : rowVal (.agg cw.toArray) := ⟨_, rfl, by simpa using hlc⟩
    clear hu67 hi67 r1
    go_region_law ((refine step_append_lies _ (by rfl) _ _ _ (by rfl) 7 91 i0 _ 65 72 Tryz.underlying65 Hi0.out hz0 hz1 hz2 size_zeroW (by omega) lv S.L.length (cellsL S.L) (by rfl) ((hown.alloc _).drew) ⟨W3.heap.size, 0, none⟩ 1 1 cw (by rfl) (by rw [hlc]) (World.news_of_block (cs := cw.toArray) (t := 91) (fr := (0, 0)) (heap_alloc_new _ _)) h1c (by omega) hn1 hn2 (by simp; omega) (W3.heap.size + 1) (by simp) ?_; intro gg cap w1 hown1 hgrow hat hlt; have hq2 : w1.cell? ⟨b, 2, none⟩ = some lv := (hgrow.cell_far ⟨b, 2, none⟩ (((Kp.refl [] W3).alloc _).drew.lt hlb) hbl).trans ((((Kp.refl [] W3).alloc _).drew.cell0 hlb).trans hc2); have hq3 : w1.frozen? ⟨b, 2, none⟩ = false := (hgrow.frozen_far ⟨b, 2, none⟩ (((Kp.refl [] W3).alloc _).drew.lt hlb) hbl).trans ((((Kp.refl [] W3).alloc _).drew.frozen0 hlb).trans hf2)))
    all_goals
      have gl : w1.ownsRow 7 91 65 (.slice (some ⟨gg, 0, none⟩) (S.L.length + 1) cap) (S.L.length + 1) (cellsL S.L ++ cellsW (k, l)) := by rw [Hcw.out]; exact hown1
      have D5 := (HD3.out.new ((Kp.refl [] W3).alloc (.cells cw.toArray 91)).drew).pushL hk Hfl.out hgrow (by
        rcases hat with hat | hat
        · exact .inl hat
        · right; rw [hat]; simp [World.drew]) gl
      have K5 : Kp (foot b bf bc lv) w (w1.setCell ⟨b, 2, none⟩ (.slice (some ⟨gg, 0, none⟩) (S.L.length + 1) cap)) :=
        ((((HK3.out.mono (g := foot b bf bc lv) (by simp [foot])).alloc (.cells cw.toArray 91)).drew).grown hgrow (fun g hg => .inl (by simp [foot, hg]))).setCell (.inl (by simp [foot])) _
      have hat5 : lv.ownBlock = some gg ∨ w.heap.size ≤ gg := by
        rcases hat with hat | hat
        · exact .inl hat
        · right; have := HK3.out.size; omega
      clear hown1 hgrow hat hlt hq2 hq3 gl
      generalize w1.setCell ⟨b, 2, none⟩ (.slice (some ⟨gg, 0, none⟩) (S.L.length + 1) cap) = W5 at *
      have h3 := D5.c3
      have h5 := D5.c5
      have h6 := D5.c6
      have f3 := D5.fr 3
      have f6 := D5.fr 6
      have hcc := Hc.out
      simp only at h3 h5 h6
      rw [hcc] at h5
      have HD5 := Lib.hid D5
      have HK5 := Lib.hid K5
      have Hat5 := Lib.hid hat5
      have hlf := Hleft.out
      first
        | (have hpos : 0 < S.left := hlf.resolve_left (Ne.symm Bool.false_ne_true))
        | skip
      clear hcc hlf D5 K5 hat5 hp hpc hown hrv h1c hc2 hf2
      go_wp2
      go_ret
      refine ⟨rfl, .slice (some ⟨gg, 0, none⟩) (S.L.length + 1) cap, ?_, ?_, fun g hg => by
        obtain rfl : gg = g := by simpa [Value.ownBlock] using hg
        exact Hat5.out⟩
      · have D6 := HD5.out.set3 (S.writes + 1)
        unfold Dk.write
        first
          | (rw [if_neg (by rw [Hc.out]; decide)]; exact D6)
          | (rw [if_pos Hc.out, setI (show (S.left : Int) - 1 = ((S.left - 1 : Nat) : Int) by omega)]; exact D6.set6 (S.left - 1))
      · first
          | exact HK5.out.setCell (.inl (by simp [foot])) _
          | exact (HK5.out.setCell (.inl (by simp [foot])) _).setCell (.inl (by simp [foot])) _
end Go.Proofs.YtggnljfcdohkaaaGreatDoor
