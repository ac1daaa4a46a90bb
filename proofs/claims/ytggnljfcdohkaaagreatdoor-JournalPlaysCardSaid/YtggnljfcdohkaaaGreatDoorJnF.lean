/- Contracts of package journal: a superblock's write, its next; hold. -/
import Derived.Test.YtggnljfcdohkaaaGreatDoorJnD
namespace Go.Proofs.YtggnljfcdohkaaaGreatDoor
open Go.RowKit

/-- The bytes of a superblock. -/
def supB (t h : Nat) : ByteArray := wrapS t (numS h)
/-- A superblock is written, and flushed. -/
def Dk.supw (S : Dk) (a t h : Nat) : Int × Dk :=
  if S.werr (a : Int) (supB t h).size = 0 then ((S.wrote (a : Int) (supB t h)).ferr, (S.wrote (a : Int) (supB t h)).flushed) else (S.werr (a : Int) (supB t h).size, S.wrote (a : Int) (supB t h))
theorem Dk.supw_n (S : Dk) (a t h : Nat) : (S.supw a t h).2.n = S.n := by
  unfold Dk.supw
  split
  · rw [Dk.flushed_n, Dk.wrote_n]
  · exact Dk.wrote_n _ _ _
theorem Dk.supw_lim (S : Dk) (a t h m : Nat) (hm : S.Lim m) : (S.supw a t h).2.Lim (m + 1) := by
  unfold Dk.supw
  split
  · exact (hm.wrote _ _).flushed
  · exact hm.wrote _ _
set_option maxHeartbeats 6400000 in
set_option maxRecDepth 20000 in
theorem supWrite_any {w : World} {f : List Nat} {b : Nat} {S : Dk} (D : DkF w f b S) (a t h : Nat) (ha : a ≤ 1) (ht : t ≤ 2000000) (hh : h ≤ 1) (hG : Gl w) (m : Nat) (hm : S.Lim m) (hmm : m + 1 < 4294967295) :
    Calls Tryz.prog 63 #[supV a t h, .pointer (some ⟨b, 0, none⟩)] w fun e w2 => ∃ v f2, e = .returned v ∧ DAns (S.supw a t h).1 v ∧ DkF w2 f2 b (S.supw a t h).2 ∧ Mv f w f2 w2 := by
  have HN := Lib.hid (num_any (h : Int) (by omega) (by omega))
  have HW := Lib.hid (wrap_any (t : Int) (by omega) (by omega) (numS h) (by have := numS_le10 h (by omega); omega))
  rw [Int.toNat_natCast] at HN HW
  obtain ⟨nh, hnh⟩ : ∃ nh, nh = numS h := ⟨_, rfl⟩
  obtain ⟨sb, hsb⟩ : ∃ sb, sb = wrapS t nh := ⟨_, rfl⟩
  have HSB : Hid (sb = supB t h) := by show sb = _; rw [hsb, hnh]; rfl
  rw [← hnh] at HN HW
  rw [← hsb] at HW
  clear hnh hsb
  have Hmm := Lib.hid hmm
  have HM := Lib.hid hm
  have HD := Lib.hid D
  have HG := Lib.hid hG
  clear D hG hm hmm
  unfold supV
  go_enter Tryz.func63, Tryz.ntmps63
  go_wp2_with fail
  obtain ⟨X, hX⟩ : ∃ X, X = w.heap.size := ⟨_, rfl⟩
  have S0 : Hid (SupAt (w.alloc (supO (a : Int) (t : Int) (h : Int))) X (a : Int) (t : Int) (h : Int)) := by rw [hX]; exact SupAt.new w _ _ _
  have K0 : Hid (Kp [] w (w.alloc (supO (a : Int) (t : Int) (h : Int)))) := (Kp.refl [] w).alloc _
  have HXf : Hid (X ∉ f) := fun hm => by have := (HD.out.pos X hm).2; omega
  rw [← hX]
  clear hX
  unfold supO at S0 K0
  generalize (w.alloc (.cells #[.int .i64 (a : Int), .int .i64 (t : Int), .int .i64 (h : Int)] 85)) = x0 at *
  have S1 : Hid (SupAt x0.drew X (a : Int) (t : Int) (h : Int)) := S0.out.kept (Kp.refl [] x0).drew
  have q0 := S1.out.c0
  have q1 := S1.out.c1
  have q2 := S1.out.c2
  have K1 : Hid (Kp [] w x0.drew) := K0.out.drew
  focus
    go_region_held3 (fun w' => w'.cell? ⟨X, 0, none⟩ = some (.int .i64 (a : Int)) ∧ w'.cell? ⟨X, 1, none⟩ = some (.int .i64 (t : Int)) ∧ w'.cell? ⟨X, 2, none⟩ = some (.int .i64 (h : Int))) (first | exact ⟨q0, q1, q2⟩ | exact ⟨r0, r1, r2⟩ | exact ⟨s0, s1, s2⟩ | exact ⟨t0, t1, t2⟩) (first | (go_at_call 88; refine Calls.mono (HN.out _) ?_; rintro e x1 ⟨rfl, K2⟩; have S2 : Hid (SupAt x1 X (a : Int) (t : Int) (h : Int)) := S1.out.kept K2; have r0 := S2.out.c0; have r1 := S2.out.c1; have r2 := S2.out.c2; have K3 : Hid (Kp [] w x1) := K1.out.trans K2; clear K2) | (go_at_call 87; refine Calls.mono (HW.out _) ?_; rintro e x2 ⟨rfl, K4⟩; have S3 : Hid (SupAt x2 X (a : Int) (t : Int) (h : Int)) := S2.out.kept K4; have s0 := S3.out.c0; have s1 := S3.out.c1; have s2 := S3.out.c2; have K5 : Hid (Kp [] w x2) := K3.out.trans K4; clear K4) | (go_at_call 60; refine Calls.mono (f_write (HD.out.kept K5.out) (a : Int) sb (by omega) (by omega) (HG.out.kept K5.out) m HM.out (by have := Hmm.out; omega)) ?_; rintro e x3 ⟨v, f2, rfl, hv, D2, M2⟩; have t0 : x3.cell? ⟨X, 0, none⟩ = some (.int .i64 (a : Int)) := (M2.cell HXf.out S3.out.lt).trans s0; have t1 : x3.cell? ⟨X, 1, none⟩ = some (.int .i64 (t : Int)) := (M2.cell HXf.out S3.out.lt).trans s1; have t2 : x3.cell? ⟨X, 2, none⟩ = some (.int .i64 (h : Int)) := (M2.cell HXf.out S3.out.lt).trans s2))
  rw [HSB.out] at hv D2
  have HD2 := Lib.hid D2
  have HM2 : Hid (Mv f w f2 x3) := (Mv.of_kp K5.out f).trans M2
  clear q0 q1 q2 r0 r1 r2 s0 s1 s2 t0 t1 t2 D2 M2 S3 S2 S1 S0 K0 K1 K3 K5 HN HW HXf
  rcases hv with ⟨rfl, h0⟩ | ⟨⟨tt, rfl⟩, h0⟩
  · have HE : Hid (S.supw a t h = ((S.wrote (a : Int) (supB t h)).ferr, (S.wrote (a : Int) (supB t h)).flushed)) := if_pos h0
    have HF := Lib.hid (f_flush HD2.out (m + 1) (HM.out.wrote _ _) Hmm.out)
    clear h0
    go_wp2_with fail
    refine Calls.mono HF.out ?_
    rintro e x4 ⟨v, f3, rfl, hv, D3, M3⟩
    have HD3 := Lib.hid D3
    have HM3 := Lib.hid (HM2.out.trans M3)
    have HO := Lib.hid (ofDisk_any hv)
    clear D3 M3 HF hv HD2 HM2
    go_wp2_with fail
    refine Calls.mono (HO.out _) ?_
    rintro e x5 ⟨⟨v2, rfl, hv2⟩, rfl⟩
    have HV := Lib.hid hv2
    clear hv2
    go_wp2_with fail
    go_ret
    rw [HE.out]
    exact ⟨_, _, rfl, HV.out, HD3.out, HM3.out⟩
  · have HE : Hid (S.supw a t h = (S.werr (a : Int) (supB t h).size, S.wrote (a : Int) (supB t h))) := if_neg h0
    have HO := Lib.hid (ofDisk_ref tt (S.werr (a : Int) (supB t h).size))
    unfold dkRef at HO
    have H6 := Lib.hid h0
    clear h0
    go_wp2_with fail
    refine Calls.mono (HO.out _) ?_
    rintro e w3 ⟨rfl, rfl⟩
    unfold dErr dkRef
    go_wp2_with fail
    go_ret
    rw [HE.out]
    exact ⟨_, _, rfl, .inr ⟨⟨tt, rfl⟩, H6.out⟩, HD2.out, HM2.out⟩

/-- A journal, as its own cells tell it. -/
structure Jn where
  at_ : Nat
  turn : Nat
  half : Nat
  count : Nat
  used : Nat
  tail : ByteArray
/-- A journal in memory: its disk (nil once it is dead), the superblock that counts, how many records, bytes, what isn't full. -/
structure JnAt (w : World) (j : Nat) (dv : Value) (J : Jn) : Prop where
  c0 : w.cell? ⟨j, 0, none⟩ = some dv
  c1 : w.cell? ⟨j, 1, none⟩ = some (.int .i64 (J.at_ : Int))
  c2 : w.cell? ⟨j, 2, none⟩ = some (.int .i64 (J.turn : Int))
  c3 : w.cell? ⟨j, 3, none⟩ = some (.int .i64 (J.half : Int))
  c4 : w.cell? ⟨j, 4, none⟩ = some (.int .i64 (J.count : Int))
  c5 : w.cell? ⟨j, 5, none⟩ = some (.int .i64 (J.used : Int))
  c6 : w.cell? ⟨j, 6, none⟩ = some (.string J.tail)
  f : ∀ o, w.frozen? ⟨j, o, none⟩ = false
theorem JnAt.lt {w : World} {j : Nat} {dv : Value} {J : Jn} (s : JnAt w j dv J) : j < w.heap.size := World.block_lt_of_cell? w _ s.c0
theorem JnAt.keep {f : List Nat} {w w2 : World} {j : Nat} {dv : Value} {J : Jn} (s : JnAt w j dv J) (k : Kp f w w2) (hX : j ∉ f) : JnAt w2 j dv J := by
  have hl := s.lt
  exact ⟨(k.cell (p := ⟨j, 0, none⟩) hl hX).trans s.c0, (k.cell (p := ⟨j, 1, none⟩) hl hX).trans s.c1, (k.cell (p := ⟨j, 2, none⟩) hl hX).trans s.c2, (k.cell (p := ⟨j, 3, none⟩) hl hX).trans s.c3,
    (k.cell (p := ⟨j, 4, none⟩) hl hX).trans s.c4, (k.cell (p := ⟨j, 5, none⟩) hl hX).trans s.c5, (k.cell (p := ⟨j, 6, none⟩) hl hX).trans s.c6, fun o => (k.frozen (p := ⟨j, o, none⟩) hl hX).trans (s.f o)⟩
theorem JnAt.kept {w w2 : World} {j : Nat} {dv : Value} {J : Jn} (s : JnAt w j dv J) (k : Kp [] w w2) : JnAt w2 j dv J := s.keep k (by simp)
def jnO (dv : Value) (J : Jn) : Obj := .cells #[dv, .int .i64 (J.at_ : Int), .int .i64 (J.turn : Int), .int .i64 (J.half : Int), .int .i64 (J.count : Int), .int .i64 (J.used : Int), .string J.tail] 87
theorem JnAt.new (w : World) (dv : Value) (J : Jn) : JnAt (w.alloc (jnO dv J)) w.heap.size dv J := ⟨by simp [jnO], by simp [jnO], by simp [jnO], by simp [jnO], by simp [jnO], by simp [jnO], by simp [jnO], fun o => by simp [jnO]⟩
/-- The journal that hold makes. -/
def jnOf (a t h n : Nat) (row : ByteArray) : Jn := { at_ := a, turn := t, half := h, count := n, used := row.size, tail := tailS row }
set_option maxHeartbeats 6400000 in
set_option maxRecDepth 20000 in
theorem hold_any (b a t h n : Nat) (row : ByteArray) (hr : row.size ≤ 1000000) (_hn : n ≤ 1000000) (w : World) :
    Calls Tryz.prog 67 #[.pointer (some ⟨b, 0, none⟩), supV a t h, .int .i64 (n : Int), .string row] w fun e w2 => ∃ j, e = .returned (.pointer (some ⟨j, 0, none⟩)) ∧ JnAt w2 j (.pointer (some ⟨b, 0, none⟩)) (jnOf a t h n row) ∧ Kp [] w w2 ∧ w.heap.size ≤ j := by
  have HT := Lib.hid (tailOf_any row (by omega))
  unfold supV
  go_enter Tryz.func67, Tryz.ntmps67
  go_wp2_with fail
  obtain ⟨X, hX⟩ : ∃ X, X = w.heap.size := ⟨_, rfl⟩
  have S0 : Hid (SupAt (w.alloc (supO (a : Int) (t : Int) (h : Int))) X (a : Int) (t : Int) (h : Int)) := by rw [hX]; exact SupAt.new w _ _ _
  have K0 : Hid (Kp [] w (w.alloc (supO (a : Int) (t : Int) (h : Int)))) := (Kp.refl [] w).alloc _
  rw [← hX]
  clear hX
  unfold supO at S0 K0
  generalize (w.alloc (.cells #[.int .i64 (a : Int), .int .i64 (t : Int), .int .i64 (h : Int)] 85)) = x0 at *
  have S1 : Hid (SupAt x0.drew X (a : Int) (t : Int) (h : Int)) := S0.out.kept (Kp.refl [] x0).drew
  have q0 := S1.out.c0
  have q1 := S1.out.c1
  have q2 := S1.out.c2
  have K1 : Hid (Kp [] w x0.drew) := K0.out.drew
  focus
    go_region_held3 (fun w' => w'.cell? ⟨X, 0, none⟩ = some (.int .i64 (a : Int)) ∧ w'.cell? ⟨X, 1, none⟩ = some (.int .i64 (t : Int)) ∧ w'.cell? ⟨X, 2, none⟩ = some (.int .i64 (h : Int))) (first | exact ⟨q0, q1, q2⟩ | exact ⟨r0, r1, r2⟩ | exact ⟨(Kp.cell0 ((Kp.refl [] x1).alloc _) S2.out.lt).trans r0, (Kp.cell0 ((Kp.refl [] x1).alloc _) S2.out.lt).trans r1, (Kp.cell0 ((Kp.refl [] x1).alloc _) S2.out.lt).trans r2⟩) (first | (go_at_call 74; refine Calls.mono (HT.out _) ?_; rintro e x1 ⟨rfl, K2⟩; have S2 : Hid (SupAt x1 X (a : Int) (t : Int) (h : Int)) := S1.out.kept K2; have r0 := S2.out.c0; have r1 := S2.out.c1; have r2 := S2.out.c2; have K3 : Hid (Kp [] w x1) := K1.out.trans K2; clear K2))
  clear q0 q1 q2 r0 r1 r2 S2 S1 S0
  go_wp2_with fail
  go_ret
  exact ⟨_, rfl, JnAt.new x1 _ (jnOf a t h n row), K3.out.alloc _, K3.out.size⟩
end Go.Proofs.YtggnljfcdohkaaaGreatDoor
