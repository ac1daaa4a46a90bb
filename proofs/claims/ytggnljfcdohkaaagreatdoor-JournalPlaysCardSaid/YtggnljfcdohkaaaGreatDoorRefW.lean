/- Contract of the reference's Write where it is done: the walk. -/
import Derived.Test.YtggnljfcdohkaaaGreatDoorOrd
namespace Go.Proofs.YtggnljfcdohkaaaGreatDoor
open Go.RowKit

theorem wp_append_copy {P : Program} {o : Oper} {a : Act} {w : World} {K : Act → World → Prop} {Q : Exit → Act → World → Prop} (hgd : o.guard = none) (s x : Operand) (t : TypeId)
    (ho : o.op = .call { callee := .builtin .append, args := #[s, x], argTypes := #[t, t] })
    (base : Nat) (e : TypeId) (i : TypeInfo) (z : Value) (bytes : Nat) (ht : P.underlying t = some (.slice e)) (hi : P.info? e = some i) (hz : i.zero = some z)
    (hsize : i.size = 1) (hby : i.bytes = bytes) (hzs : z.cells.size = 1)
    (hs : a.eval s = .slice none 0 0) (v : Value) (n : Nat) (xs : List Value) (hx : a.eval x = v) (hown : w.ownsRow base e 1 v n xs) (h1 : ∀ u ∈ xs, u.oneCell' = true)
    (h63 : n ≤ maxLen) (hbytes : n * bytes ≤ 140737488355328) (hbase : base ≤ w.heap.size)
    (h : ∀ v2 w2, w2.ownsRow base e 1 v2 n xs → Kp [] w w2 → (∀ g, v2.ownBlock = some g → w.heap.size ≤ g) → K (a.put o.dst v2) w2) :
    Oper.wp P o a w K Q := by
  have h2 := step_append_copy (ops := #[]) (Q := Q) (E := True) hgd s x t ho base e i z bytes ht hi hz hsize hby hzs hs v n xs hx hown h1 h63 hbytes hbase h
  rw [if_pos (by simp [Region.wanted, hgd])] at h2
  exact h2
/-- What the statement's loads read. -/
def RfS (b : Nat) (av bv : Value) (n : Nat) (w : World) : Prop := w.cell? ⟨b, 1, none⟩ = some av ∧ w.cell? ⟨b, 2, none⟩ = some bv ∧ w.cell? ⟨b, 3, none⟩ = some (.int .i64 (n : Int))
theorem rfs_of {w x : World} {b : Nat} {av bv : Value} {n : Nat} (K : Kp [] w x) (hlb : b < w.heap.size) (c1 : w.cell? ⟨b, 1, none⟩ = some av) (c2 : w.cell? ⟨b, 2, none⟩ = some bv) (c3 : w.cell? ⟨b, 3, none⟩ = some (.int .i64 (n : Int))) : RfS b av bv n x :=
  ⟨(K.cell0 hlb).trans c1, (K.cell0 hlb).trans c2, (K.cell0 hlb).trans c3⟩
/-- The rows of the loose Writes, and the count, have been replaced. -/
theorem RfAt.wrote {W0 x5 : World} {b : Nat} {sv av bv : Value} {S S2 : Dk} (R : RfAt W0 b sv av bv S) (K5 : Kp [] W0 x5) (k : Nat) (hk : k < S.n) (l : List UInt8) (hl : l.length = 64) {g2 g5 c2 c5 : Nat} (h2 : W0.heap.size ≤ g2) (h5 : W0.heap.size ≤ g5)
    (o2 : x5.ownsRow 7 3 1 (.slice (some ⟨g2, 0, none⟩) (S.L.length + 1) c2) (S.L.length + 1) ((S.L.map fun x => .int .i64 (x.1 : Int)) ++ [.int .i64 (k : Int)]))
    (o5 : x5.ownsRow 7 9 1 (.slice (some ⟨g5, 0, none⟩) (S.L.length + 1) c5) (S.L.length + 1) ((S.L.map fun x => strV x.2) ++ [strV l]))
    (e1 : S2.n = S.n) (e2 : S2.F = S.F) (e3 : S2.L = S.L ++ [(k, l)]) (e4 : S2.writes = S.writes + 1) (e5 : S2.dead = S.dead) (e6 : S2.cut = S.cut) (e7 : S.cut = true → S2.left = S.left) :
    RfAt (((x5.setCell ⟨b, 1, none⟩ (.slice (some ⟨g2, 0, none⟩) (S.L.length + 1) c2)).setCell ⟨b, 2, none⟩ (.slice (some ⟨g5, 0, none⟩) (S.L.length + 1) c5)).setCell ⟨b, 3, none⟩ (.int .i64 ((S.writes : Int) + 1))) b sv (.slice (some ⟨g2, 0, none⟩) (S.L.length + 1) c2) (.slice (some ⟨g5, 0, none⟩) (S.L.length + 1) c5) S2 := by
  have lb := R.lb
  have K : Kp [b] x5 (((x5.setCell ⟨b, 1, none⟩ (.slice (some ⟨g2, 0, none⟩) (S.L.length + 1) c2)).setCell ⟨b, 2, none⟩ (.slice (some ⟨g5, 0, none⟩) (S.L.length + 1) c5)).setCell ⟨b, 3, none⟩ (.int .i64 ((S.writes : Int) + 1))) :=
    (((Kp.refl [b] x5).setCell (.inl (by simp)) _).setCell (.inl (by simp)) _).setCell (.inl (by simp)) _
  have n2 : ∀ g, (Value.slice (some ⟨g2, 0, none⟩) (S.L.length + 1) c2).ownBlock = some g → g ∉ [b] := fun g hg hm => by
    have h : g2 = g := by simpa [Value.ownBlock] using hg
    have := List.mem_singleton.1 hm
    omega
  have n5 : ∀ g, (Value.slice (some ⟨g5, 0, none⟩) (S.L.length + 1) c5).ownBlock = some g → g ∉ [b] := fun g hg hm => by
    have h : g5 = g := by simpa [Value.ownBlock] using hg
    have := List.mem_singleton.1 hm
    omega
  exact {
    n2 := by rw [e1]; exact R.n2
    hb := R.hb
    ns := R.ns
    na := fun h => n2 b h (by simp)
    nb := fun h => n5 b h (by simp)
    c0 := by rw [cell_ne _ _ _ _ _ (by decide), cell_ne _ _ _ _ _ (by decide), cell_ne _ _ _ _ _ (by decide), K5.cell0 lb]; exact R.c0
    c1 := by rw [cell_ne _ _ _ _ _ (by decide), cell_ne _ _ _ _ _ (by decide)]; exact cell_eq _ _ _ _ _ ((K5.cell0 lb).trans R.c1)
    c2 := by rw [cell_ne _ _ _ _ _ (by decide)]; exact cell_eq _ _ _ _ _ (by rw [cell_ne _ _ _ _ _ (by decide)]; exact (K5.cell0 lb).trans R.c2)
    c3 := by rw [e4]; exact cell_eq _ _ _ _ _ (by rw [cell_ne _ _ _ _ _ (by decide), cell_ne _ _ _ _ _ (by decide)]; exact (K5.cell0 lb).trans R.c3)
    c4 := by
      rw [cell_ne _ _ _ _ _ (by decide), cell_ne _ _ _ _ _ (by decide), cell_ne _ _ _ _ _ (by decide), K5.cell0 lb, R.c4, e6]
      cases hc : S.cut
      · rfl
      · rw [if_pos rfl, if_pos rfl, e7 hc]
    c5 := by rw [cell_ne _ _ _ _ _ (by decide), cell_ne _ _ _ _ _ (by decide), cell_ne _ _ _ _ _ (by decide), K5.cell0 lb, e5]; exact R.c5
    fr := fun o => by rw [frozen_setCell, frozen_setCell, frozen_setCell, K5.frozen0 lb]; exact R.fr o
    ss := by
      rw [e1, e2]
      exact K.owns (K5.owns R.ss (fun _ _ hm => by cases hm)) (fun g hg hm => R.ns (by rw [hg, List.mem_singleton.1 hm]))
    ats := by
      rw [e3, List.length_append, List.map_append]
      exact K.owns o2 n2
    bts := by
      rw [e3, List.length_append, List.map_append]
      exact K.owns o5 n5
    fl := fun j hj => by rw [e2]; exact R.fl j (by rw [← e1]; exact hj)
    lok := fun x hx => by
      rw [e3] at hx
      rw [e1]
      rcases List.mem_append.1 hx with h | h
      · exact R.lok x h
      · obtain rfl := List.mem_singleton.1 h
        exact ⟨hk, hl⟩ }
/-- What a call that writes leaves. -/
def RfThen (b : Nat) (sv : Value) (S2 : Dk) (w w2 : World) : Prop := ∃ av2 bv2, RfAt w2 b sv av2 bv2 S2 ∧ Kp [b] w w2 ∧ (∀ g, av2.ownBlock = some g → w.heap.size ≤ g) ∧ ∀ g, bv2.ownBlock = some g → w.heap.size ≤ g
theorem RfThen.mk {w W0 x5 : World} {b : Nat} {sv av bv : Value} {S S2 : Dk} (R : RfAt W0 b sv av bv S) (k0 : Kp [b] w W0) (K5 : Kp [] W0 x5) (k : Nat) (hk : k < S.n) (l : List UInt8) (hl : l.length = 64) {g2 g5 c2 c5 : Nat} (h2 : W0.heap.size ≤ g2) (h5 : W0.heap.size ≤ g5)
    (o2 : x5.ownsRow 7 3 1 (.slice (some ⟨g2, 0, none⟩) (S.L.length + 1) c2) (S.L.length + 1) ((S.L.map fun x => .int .i64 (x.1 : Int)) ++ [.int .i64 (k : Int)]))
    (o5 : x5.ownsRow 7 9 1 (.slice (some ⟨g5, 0, none⟩) (S.L.length + 1) c5) (S.L.length + 1) ((S.L.map fun x => strV x.2) ++ [strV l]))
    (e1 : S2.n = S.n) (e2 : S2.F = S.F) (e3 : S2.L = S.L ++ [(k, l)]) (e4 : S2.writes = S.writes + 1) (e5 : S2.dead = S.dead) (e6 : S2.cut = S.cut) (e7 : S.cut = true → S2.left = S.left) :
    RfThen b sv S2 w (((x5.setCell ⟨b, 1, none⟩ (.slice (some ⟨g2, 0, none⟩) (S.L.length + 1) c2)).setCell ⟨b, 2, none⟩ (.slice (some ⟨g5, 0, none⟩) (S.L.length + 1) c5)).setCell ⟨b, 3, none⟩ (.int .i64 ((S.writes : Int) + 1))) := by
  have hw := k0.size
  refine ⟨_, _, R.wrote K5 k hk l hl h2 h5 o2 o5 e1 e2 e3 e4 e5 e6 e7, ?_, fun g hg => ?_, fun g hg => ?_⟩
  · exact (((k0.trans (K5.mono (fun x hx => by cases hx))).setCell (.inl (by simp)) _).setCell (.inl (by simp)) _).setCell (.inl (by simp)) _
  · have h : g2 = g := by simpa [Value.ownBlock] using hg
    omega
  · have h : g5 = g := by simpa [Value.ownBlock] using hg
    omega

set_option maxHeartbeats 6400000 in
set_option maxRecDepth 20000 in
theorem rfwrite_nocut (w : World) (b : Nat) (sv av bv : Value) (S : Dk) (R : RfAt w b sv av bv S) (k : Nat) (hk : k < S.n) (s : ByteArray) (hs : s.size ≤ 64) (hd : S.dead = false) (hcut : S.cut = false) (hW : S.writes < 4611686018427387904) (hL : S.L.length < 4294967296) :
    Calls Tryz.prog 31 #[.pointer (some ⟨b, 0, none⟩), .int .i64 (k : Int), .string s] w fun e w2 => e = .returned (.int .i64 0) ∧ RfThen b sv (S.write k (fillUp s)) w w2 := by
  have c5 := R.c5
  rw [hd] at c5
  have c4 := R.c4
  rw [hcut, if_neg (by decide)] at c4
  obtain ⟨sa, sc, rfl⟩ := owns_form R.ss
  have c0 := R.c0
  have hlb0 := R.lb
  have hkn : (k : Int) < (S.n : Int) := by omega
  have hk0 : (0 : Int) ≤ (k : Int) := by omega
  have e64 : decide ((64 : Int) < (s.size : Int)) = false := by simp; omega
  have R0 := R
  have k00 := Kp.refl [b] w
  have HR := Lib.hid R0
  have HK0 := Lib.hid k00
  have C1 := R0.c1
  have C2 := R0.c2
  have C3 := R0.c3
  have F1 := R0.fr 1
  have F2 := R0.fr 2
  have F3 := R0.fr 3
  have hlb := R0.lb
  obtain ⟨i0, hi0, hz0, hz1, hz2⟩ := info_parts infoStr
  obtain ⟨j0, hj0, jz0, jz1, jz2⟩ := info_parts infoInt
  have Hi0 := Lib.hid hi0
  have Hj0 := Lib.hid hj0
  have hg4 : 7 ≤ w.heap.size := by have := R0.hb; omega
  clear hi0 hj0 R R0 k00
  have HWR : Hid (IntKind.i64.wrap ((S.writes : Int) + 1) = (S.writes : Int) + 1) := by show _ = _; rw [IntKind.wrap_i64]; omega
  have hln : S.L.length ≤ maxLen := by unfold maxLen; omega
  have hln1 : S.L.length + 1 ≤ maxLen := by unfold maxLen; omega
  have hb8 : S.L.length * 8 ≤ 140737488355328 := by omega
  have hb81 : (S.L.length + 1) * 8 ≤ 140737488355328 := by omega
  have hb16 : S.L.length * 16 ≤ 140737488355328 := by omega
  have hb161 : (S.L.length + 1) * 16 ≤ 140737488355328 := by omega
  have hoi : ∀ u ∈ (S.L.map fun x => Value.int .i64 (x.1 : Int)), u.oneCell' = true := by
    intro u hu; obtain ⟨x, _, rfl⟩ := List.mem_map.1 hu; rfl
  have hos : ∀ u ∈ (S.L.map fun x => strV x.2), u.oneCell' = true := by
    intro u hu; obtain ⟨x, _, rfl⟩ := List.mem_map.1 hu; rfl
  have Hoi := Lib.hid hoi
  have Hos := Lib.hid hos
  clear hoi hos
  obtain ⟨xi, hxi⟩ : ∃ xi, xi = (S.L.map fun x => Value.int .i64 (x.1 : Int)) := ⟨_, rfl⟩
  obtain ⟨xs, hxs⟩ : ∃ xs, xs = (S.L.map fun x => strV x.2) := ⟨_, rfl⟩
  have HAt := Lib.hid HR.out.ats
  have HBt := Lib.hid HR.out.bts
  rw [← hxi] at HAt Hoi
  rw [← hxs] at HBt Hos
  have Hxi := Lib.hid hxi
  have Hxs := Lib.hid hxs
  clear hxi hxs
  go_enter Tryz.func31, Tryz.ntmps31
  go_wp2_with fail
  have hS : RfS b av bv S.writes w.drew := ⟨C1, C2, C3⟩
  have KA : Kp [] w w.drew := (Kp.refl [] w).drew
  refine wp_region_M (RfS b av bv S.writes) 27 (by kernel_rfl) ?_
  refine wpAnyM_takeY (i := 0) (v := ?v1) rfl (by kernel_rfl) (by kernel_rfl) (by kernel_rfl) (fun _ _ _ h => h) (by decide) (Or.inl ⟨by rfl, ?hy1⟩) (fun _ => hS) ?rest1
  case hy1 => (intro w; go_simp; first | done | with_reducible rfl)
  try simp only [List.getElem_toArray, List.getElem_cons_zero, Act.put, List.setIfInBounds_toArray, List.set_cons_zero, List.set_cons_succ]
  refine wpAnyM_takeY (i := 1) (v := ?v2) rfl (by kernel_rfl) (by kernel_rfl) (by kernel_rfl) (fun _ _ _ h => h) (by decide) (Or.inl ⟨by rfl, ?hy2⟩) (fun _ => hS) ?rest2
  case hy2 => (intro w; go_simp; first | done | with_reducible rfl)
  try simp only [List.getElem_toArray, List.getElem_cons_succ, List.getElem_cons_zero, Act.put, List.setIfInBounds_toArray, List.set_cons_zero, List.set_cons_succ]
  refine wpAnyM_takeY (i := 2) (v := ?v3) rfl (by kernel_rfl) (by kernel_rfl) (by kernel_rfl) (fun _ _ _ h => h) (by decide) (Or.inl ⟨by rfl, ?hy3⟩) (fun _ => hS) ?rest3
  case hy3 => (intro w; go_simp; first | done | with_reducible rfl)
  try simp only [List.getElem_toArray, List.getElem_cons_succ, List.getElem_cons_zero, Act.put, List.setIfInBounds_toArray, List.set_cons_zero, List.set_cons_succ]
  refine wpAnyM_takeY (i := 3) (v := ?v4) rfl (by kernel_rfl) (by kernel_rfl) (by kernel_rfl) (fun _ _ _ h => h) (by decide) (Or.inl ⟨by rfl, ?hy4⟩) (fun _ => hS) ?rest4
  case hy4 => (intro w; go_simp; first | done | with_reducible rfl)
  try simp only [List.getElem_toArray, List.getElem_cons_succ, List.getElem_cons_zero, Act.put, List.setIfInBounds_toArray, List.set_cons_zero, List.set_cons_succ]
  refine wpAnyM_takeY (i := 4) (v := ?v5) rfl (by kernel_rfl) (by kernel_rfl) (by kernel_rfl) (fun _ _ _ h => h) (by decide) (Or.inl ⟨by rfl, ?hy5⟩) (fun _ => hS) ?rest5
  case hy5 => (intro w; go_simp; first | done | with_reducible rfl)
  try simp only [List.getElem_toArray, List.getElem_cons_succ, List.getElem_cons_zero, Act.put, List.setIfInBounds_toArray, List.set_cons_zero, List.set_cons_succ]
  refine wpAnyM_takeY (i := 5) (v := ?v6) rfl (by kernel_rfl) (by kernel_rfl) (by kernel_rfl) (fun _ _ _ h => h) (by decide) (Or.inl ⟨by rfl, ?hy6⟩) (fun _ => hS) ?rest6
  case hy6 => (intro w; go_simp; first | done | with_reducible rfl)
  try simp only [List.getElem_toArray, List.getElem_cons_succ, List.getElem_cons_zero, Act.put, List.setIfInBounds_toArray, List.set_cons_zero, List.set_cons_succ]
  refine wpAnyM_takeY (i := 8) (v := ?v7) rfl (by kernel_rfl) (by kernel_rfl) (by kernel_rfl) (fun _ _ _ h => h) (by decide) (Or.inl ⟨by rfl, ?hy7⟩) (fun _ => hS) ?rest7
  case hy7 => (intro w; go_simp; first | done | with_reducible rfl)
  try simp only [List.getElem_toArray, List.getElem_cons_succ, List.getElem_cons_zero, Act.put, List.setIfInBounds_toArray, List.set_cons_zero, List.set_cons_succ]
  refine wpAnyM_takeY (i := 11) (v := ?v8) rfl (by kernel_rfl) (by kernel_rfl) (by kernel_rfl) (fun _ _ _ h => h) (by decide) (Or.inl ⟨by rfl, ?hy8⟩) (fun _ => hS) ?rest8
  case hy8 => (intro w; go_simp; first | done | with_reducible rfl)
  try simp only [List.getElem_toArray, List.getElem_cons_succ, List.getElem_cons_zero, Act.put, List.setIfInBounds_toArray, List.set_cons_zero, List.set_cons_succ]
  refine wpAnyM_takeY (i := 12) (v := ?v9) rfl (by kernel_rfl) (by kernel_rfl) (by kernel_rfl) (fun _ _ _ h => h) (by decide) (Or.inl ⟨by rfl, ?hy9⟩) (fun _ => hS) ?rest9
  case hy9 => (intro w; go_simp; first | done | with_reducible rfl)
  try simp only [List.getElem_toArray, List.getElem_cons_succ, List.getElem_cons_zero, Act.put, List.setIfInBounds_toArray, List.set_cons_zero, List.set_cons_succ]
  refine wpAnyM_takeY (i := 13) (v := ?v10) rfl (by kernel_rfl) (by kernel_rfl) (by kernel_rfl) (fun _ _ _ h => h) (by decide) (Or.inl ⟨by rfl, ?hy10⟩) (fun _ => hS) ?rest10
  case hy10 => (intro w; go_simp; first | done | with_reducible rfl)
  try simp only [List.getElem_toArray, List.getElem_cons_succ, List.getElem_cons_zero, Act.put, List.setIfInBounds_toArray, List.set_cons_zero, List.set_cons_succ]
  refine wpAnyM_takeY (i := 16) (v := ?v11) rfl (by kernel_rfl) (by kernel_rfl) (by kernel_rfl) (fun _ _ _ h => h) (by decide) (Or.inl ⟨by rfl, ?hy11⟩) (fun _ => hS) ?rest11
  case hy11 => (intro w; go_simp; first | done | with_reducible rfl)
  try simp only [List.getElem_toArray, List.getElem_cons_succ, List.getElem_cons_zero, Act.put, List.setIfInBounds_toArray, List.set_cons_zero, List.set_cons_succ]
  refine wpAnyM_takeY (i := 20) (v := ?v12) rfl (by kernel_rfl) (by kernel_rfl) (by kernel_rfl) (fun _ _ _ h => h) (by decide) (Or.inl ⟨by rfl, ?hy12⟩) (fun _ => hS) ?rest12
  case hy12 => (intro w; go_simp; first | done | with_reducible rfl)
  try simp only [List.getElem_toArray, List.getElem_cons_succ, List.getElem_cons_zero, Act.put, List.setIfInBounds_toArray, List.set_cons_zero, List.set_cons_succ]
  refine wpAnyM_takeY (i := 21) (v := ?v13) rfl (by kernel_rfl) (by kernel_rfl) (by kernel_rfl) (fun _ _ _ h => h) (by decide) (Or.inl ⟨by rfl, ?hy13⟩) (fun _ => hS) ?rest13
  case hy13 => (intro w; go_simp; first | done | with_reducible rfl)
  try simp only [List.getElem_toArray, List.getElem_cons_succ, List.getElem_cons_zero, Act.put, List.setIfInBounds_toArray, List.set_cons_zero, List.set_cons_succ]
  refine wpAnyM_takeY (i := 22) (v := ?v14) rfl (by kernel_rfl) (by kernel_rfl) (by kernel_rfl) (fun _ _ _ h => h) (by decide) (Or.inl ⟨by rfl, ?hy14⟩) (fun _ => hS) ?rest14
  case hy14 => (intro w; go_simp; first | done | with_reducible rfl)
  try simp only [List.getElem_toArray, List.getElem_cons_succ, List.getElem_cons_zero, Act.put, List.setIfInBounds_toArray, List.set_cons_zero, List.set_cons_succ]
  refine wpAnyM_takeL (i := 6) (v := ?v15) rfl (by kernel_rfl) (by kernel_rfl) (by kernel_rfl) (fun _ _ _ h => h) (by decide) (by kernel_rfl) (by kernel_rfl) (Or.inl ⟨by rfl, ?hy15⟩) hS ?rest15
  case hy15 => (intro w hS; obtain ⟨s1, s2, s3⟩ := hS; go_simp; first | done | with_reducible rfl)
  try simp only [List.getElem_toArray, List.getElem_cons_succ, List.getElem_cons_zero, Act.put, List.setIfInBounds_toArray, List.set_cons_zero, List.set_cons_succ]
  refine wpAnyM_takeL (i := 14) (v := ?v16) rfl (by kernel_rfl) (by kernel_rfl) (by kernel_rfl) (fun _ _ _ h => h) (by decide) (by kernel_rfl) (by kernel_rfl) (Or.inl ⟨by rfl, ?hy16⟩) hS ?rest16
  case hy16 => (intro w hS; obtain ⟨s1, s2, s3⟩ := hS; go_simp; first | done | with_reducible rfl)
  try simp only [List.getElem_toArray, List.getElem_cons_succ, List.getElem_cons_zero, Act.put, List.setIfInBounds_toArray, List.set_cons_zero, List.set_cons_succ]
  refine wpAnyM_takeL (i := 23) (v := ?v17) rfl (by kernel_rfl) (by kernel_rfl) (by kernel_rfl) (fun _ _ _ h => h) (by decide) (by kernel_rfl) (by kernel_rfl) (Or.inl ⟨by rfl, ?hy17⟩) hS ?rest17
  case hy17 => (intro w hS; obtain ⟨s1, s2, s3⟩ := hS; go_simp; first | done | with_reducible rfl)
  try simp only [List.getElem_toArray, List.getElem_cons_succ, List.getElem_cons_zero, Act.put, List.setIfInBounds_toArray, List.set_cons_zero, List.set_cons_succ]
  refine wpAnyM_takeY (i := 24) (v := ?v18) rfl (by kernel_rfl) (by kernel_rfl) (by kernel_rfl) (fun _ _ _ h => h) (by decide) (Or.inl ⟨by rfl, ?hy18⟩) (fun _ => hS) ?rest18
  case hy18 => (intro w; go_simp; first | done | with_reducible rfl)
  try simp only [List.getElem_toArray, List.getElem_cons_succ, List.getElem_cons_zero, Act.put, List.setIfInBounds_toArray, List.set_cons_zero, List.set_cons_succ]
  refine wpAnyM_two (i := 7) (j := 9) (by kernel_rfl) rfl rfl (fun K hK => ?_) (fun K hK => ?_)
  ·
    try simp only [List.getElem_toArray, List.getElem_cons_succ, List.getElem_cons_zero]
    refine Eq.mpr (if_pos rfl) ?_
    refine wp_append_copy (by rfl) _ _ _ (by rfl) 7 3 j0 _ 8 Tryz.underlying54 Hj0.out jz0 jz1 jz2 rfl (by rfl) av S.L.length xi (by rfl) (KA.owns HAt.out (fun _ _ hm => by cases hm)) Hoi.out hln hb8 (Nat.le_trans hg4 KA.size) ?_
    intro v1 x1 hv1 kk1 hm1
    have hn1 : ∀ g, v1.ownBlock = some g → w.heap.size ≤ g := fun g h => Nat.le_trans KA.size (hm1 g h)
    have K1 : Kp [] w x1 := KA.trans kk1
    clear hm1
    refine hK _ _ (fun _ => rfs_of K1 hlb C1 C2 C3) ?_
    clear hK K
    try simp only [Act.put, List.setIfInBounds_toArray, List.set_cons_zero, List.set_cons_succ]
    refine wpAnyM_one (i := 9) (by kernel_rfl) rfl (fun K hK => ?_)
    try simp only [List.getElem_toArray, List.getElem_cons_succ, List.getElem_cons_zero]
    go_simp
    generalize hX : World.alloc _ _ = x1b
    have K1b : Kp [] w x1b := by rw [← hX]; exact K1.alloc _
    have hv1b : x1b.ownsRow 7 3 1 v1 S.L.length xi := by rw [← hX]; exact ((Kp.refl [] x1).alloc _).owns hv1 (fun _ _ hm => by cases hm)
    have hN1 : x1b.heap[x1.heap.size]? = some (.cells #[.int .i64 (k : Int)] 3) := by rw [← hX]; exact heap_alloc_new x1 _
    clear hX hv1 kk1
    refine hK _ _ (fun _ => rfs_of K1b hlb C1 C2 C3) ?_
    clear hK K
    try simp only [List.getElem_toArray, List.getElem_cons_succ, List.getElem_cons_zero, Act.put, List.setIfInBounds_toArray, List.set_cons_zero, List.set_cons_succ]
    refine wpAnyM_one (i := 10) (by kernel_rfl) rfl (fun K hK => ?_)
    try simp only [List.getElem_toArray, List.getElem_cons_succ, List.getElem_cons_zero]
    refine Eq.mpr (if_pos rfl) ?_
    refine wp_append_lies _ _ _ _ (by rfl) 7 3 j0 _ 1 8 Tryz.underlying54 Hj0.out jz0 jz1 jz2 rfl (by decide) v1 S.L.length xi (by rfl) hv1b ⟨x1.heap.size, 0, none⟩ 1 1 [.int .i64 (k : Int)] (by rfl) (by rfl) (World.news_of_block (cs := #[.int .i64 (k : Int)]) (t := 3) (fr := (0, 0)) hN1) (by intro u hu; simp at hu; subst hu; rfl) (by decide) hln1 hb81 (Nat.le_trans hg4 K1b.size) _ rfl ?_
    intro gg2 cap2 x2 hv2 hgr2 hat2 hlt2
    have K2 : Kp [] w x2 := K1b.grown hgr2 (fun g hg => .inr (hn1 g hg))
    have hn2 : w.heap.size ≤ gg2 := by
      rcases hat2 with h | h
      · exact hn1 _ h
      · exact Nat.le_trans K1b.size (Nat.le_of_eq h.symm)
    have HV2 := Lib.hid hv2
    clear hv2 hgr2 hat2 hlt2
    refine hK _ _ (fun _ => rfs_of K2 hlb C1 C2 C3) ?_
    clear hK K
    try simp only [Act.put, List.setIfInBounds_toArray, List.set_cons_zero, List.set_cons_succ]
    refine wpAnyM_one (i := 15) (by kernel_rfl) rfl (fun K hK => ?_)
    try simp only [List.getElem_toArray, List.getElem_cons_succ, List.getElem_cons_zero]
    refine Eq.mpr (if_pos rfl) ?_
    refine wp_append_copy (by rfl) _ _ _ (by rfl) 7 9 i0 _ 16 Tryz.underlying34 Hi0.out hz0 hz1 hz2 rfl (by rfl) bv S.L.length xs (by rfl) (K2.owns HBt.out (fun _ _ hm => by cases hm)) Hos.out hln hb16 (Nat.le_trans hg4 K2.size) ?_
    intro v3 x3 hv3 kk3 hm3
    have hn3 : ∀ g, v3.ownBlock = some g → w.heap.size ≤ g ∧ g ≠ gg2 := fun g h => ⟨Nat.le_trans K2.size (hm3 g h), fun e => by have h1 := hm3 g h; have h2 := (owns_lt HV2.out gg2 rfl).2; omega⟩
    have HV2b := Lib.hid (kk3.owns HV2.out (fun _ _ hm => by cases hm))
    have K3 : Kp [] w x3 := K2.trans kk3
    clear hm3
    refine hK _ _ (fun _ => rfs_of K3 hlb C1 C2 C3) ?_
    clear hK K
    try simp only [Act.put, List.setIfInBounds_toArray, List.set_cons_zero, List.set_cons_succ]
    refine wpAnyM_one (i := 17) (by kernel_rfl) rfl (fun K hK => ?_)
    try simp only [List.getElem_toArray, List.getElem_cons_succ, List.getElem_cons_zero]
    go_simp
    go_at_call 28
    refine Calls.mono (filled_any s hs _) ?_
    rintro e x4 ⟨rfl, kk4⟩
    have K4 : Kp [] w x4 := K3.trans kk4
    have HV2c := Lib.hid (kk4.owns HV2b.out (fun _ _ hm => by cases hm))
    have hv3b := kk4.owns hv3 (fun _ _ hm => by cases hm)
    clear hv3 HV2b HV2 kk3 kk4
    try dsimp only
    refine hK _ _ (fun _ => rfs_of K4 hlb C1 C2 C3) ?_
    clear hK K
    try simp only [List.getElem_toArray, List.getElem_cons_succ, List.getElem_cons_zero, Act.put, List.setIfInBounds_toArray, List.set_cons_zero, List.set_cons_succ]
    refine wpAnyM_one (i := 18) (by kernel_rfl) rfl (fun K hK => ?_)
    try simp only [List.getElem_toArray, List.getElem_cons_succ, List.getElem_cons_zero]
    go_simp
    generalize hX : World.alloc _ _ = x4b
    have K4b : Kp [] w x4b := by rw [← hX]; exact K4.alloc _
    have hv3c : x4b.ownsRow 7 9 1 v3 S.L.length xs := by rw [← hX]; exact ((Kp.refl [] x4).alloc _).owns hv3b (fun _ _ hm => by cases hm)
    have HV2d := Lib.hid (show x4b.ownsRow 7 3 1 (.slice (some ⟨gg2, 0, none⟩) (S.L.length + 1) cap2) (S.L.length + 1) (xi ++ [.int .i64 (k : Int)]) by rw [← hX]; exact ((Kp.refl [] x4).alloc _).owns HV2c.out (fun _ _ hm => by cases hm))
    have hN4 : x4b.heap[x4.heap.size]? = some (.cells #[strV (fillUp s)] 9) := by rw [← hX]; exact heap_alloc_new x4 _
    have hX4 : x4.heap.size ≤ x4b.heap.size := by rw [← hX]; simp
    clear hX hv3b HV2c
    refine hK _ _ (fun _ => rfs_of K4b hlb C1 C2 C3) ?_
    clear hK K
    try simp only [List.getElem_toArray, List.getElem_cons_succ, List.getElem_cons_zero, Act.put, List.setIfInBounds_toArray, List.set_cons_zero, List.set_cons_succ]
    refine wpAnyM_one (i := 19) (by kernel_rfl) rfl (fun K hK => ?_)
    try simp only [List.getElem_toArray, List.getElem_cons_succ, List.getElem_cons_zero]
    refine Eq.mpr (if_pos rfl) ?_
    refine wp_append_lies _ _ _ _ (by rfl) 7 9 i0 _ 1 16 Tryz.underlying34 Hi0.out hz0 hz1 hz2 rfl (by decide) v3 S.L.length xs (by rfl) hv3c ⟨x4.heap.size, 0, none⟩ 1 1 [strV (fillUp s)] (by rfl) (by rfl) (World.news_of_block (cs := #[strV (fillUp s)]) (t := 9) (fr := (0, 0)) hN4) (by intro u hu; simp at hu; subst hu; rfl) (by decide) hln1 hb161 (Nat.le_trans hg4 K4b.size) _ rfl ?_
    intro gg5 cap5 x5 hv5 hgr5 hat5 hlt5
    have K5 : Kp [] w x5 := K4b.grown hgr5 (fun g hg => .inr (hn3 g hg).1)
    have hn5 : w.heap.size ≤ gg5 := by
      rcases hat5 with h | h
      · exact (hn3 _ h).1
      · exact Nat.le_trans K4b.size (Nat.le_of_eq h.symm)
    have kg5 : Kp v3.ownBlock.toList x4b x5 := (Kp.refl _ x4b).grown hgr5 (fun k hk => .inl (by simp [hk]))
    have HV2e := Lib.hid (kg5.owns HV2d.out (fun g hg hm => by
      have e1 : gg2 = g := by simpa [Value.ownBlock] using hg
      exact (hn3 g (by simpa using hm)).2 e1.symm))
    have HV5 := Lib.hid hv5
    clear hv5 hgr5 hat5 hlt5 HV2d kg5 hv3c
    refine hK _ _ (fun _ => rfs_of K5 hlb C1 C2 C3) ?_
    clear hK K
    try simp only [Act.put, List.setIfInBounds_toArray, List.set_cons_zero, List.set_cons_succ]
    have e1 : x5.cell? ⟨b, 1, none⟩ = some av := (rfs_of K5 hlb C1 C2 C3).1
    have e2 : x5.cell? ⟨b, 2, none⟩ = some bv := (rfs_of K5 hlb C1 C2 C3).2.1
    have e3 : x5.cell? ⟨b, 3, none⟩ = some (.int .i64 (S.writes : Int)) := (rfs_of K5 hlb C1 C2 C3).2.2
    have g1 : x5.frozen? ⟨b, 1, none⟩ = false := (K5.frozen0 hlb).trans F1
    have g2 : x5.frozen? ⟨b, 2, none⟩ = false := (K5.frozen0 hlb).trans F2
    have g3 : x5.frozen? ⟨b, 3, none⟩ = false := (K5.frozen0 hlb).trans F3
    refine wpAnyM_takeY (i := 25) (v := ?v19) rfl (by kernel_rfl) (by kernel_rfl) (by kernel_rfl) (fun _ _ _ h => h) (by decide) (Or.inl ⟨by rfl, ?hy19⟩) (fun _ => rfs_of K5 hlb C1 C2 C3) ?rest19
    case hy19 => (intro w; go_simp; first | done | with_reducible rfl)
    try simp only [List.getElem_toArray, List.getElem_cons_succ, List.getElem_cons_zero, Act.put, List.setIfInBounds_toArray, List.set_cons_zero, List.set_cons_succ]
    refine wpAnyM_takeY (i := 26) (v := ?v20) rfl (by kernel_rfl) (by kernel_rfl) (by kernel_rfl) (fun _ _ _ h => h) (by decide) (Or.inl ⟨by rfl, ?hy20⟩) (fun _ => rfs_of K5 hlb C1 C2 C3) ?rest20
    case hy20 => (intro w; go_simp; first | done | with_reducible rfl)
    try simp only [List.getElem_toArray, List.getElem_cons_succ, List.getElem_cons_zero, Act.put, List.setIfInBounds_toArray, List.set_cons_zero, List.set_cons_succ]
    refine wpAnyM_one (i := 27) (by kernel_rfl) rfl (fun K hK => ?_)
    try simp only [List.getElem_toArray, List.getElem_cons_succ, List.getElem_cons_zero]
    go_simp
    refine hK _ _ (fun h => absurd h (by decide)) ?_
    clear hK K
    try simp only [List.getElem_toArray, List.getElem_cons_succ, List.getElem_cons_zero, Act.put, List.setIfInBounds_toArray, List.set_cons_zero, List.set_cons_succ]
    refine wpAnyM_takeY (i := 28) (v := ?v21) rfl (by kernel_rfl) (by kernel_rfl) (by kernel_rfl) (fun _ _ _ h => h) (by decide) (Or.inl ⟨by rfl, ?hy21⟩) (fun h => absurd h (by decide)) ?rest21
    case hy21 => (intro w; go_simp; first | done | with_reducible rfl)
    try simp only [List.getElem_toArray, List.getElem_cons_succ, List.getElem_cons_zero, Act.put, List.setIfInBounds_toArray, List.set_cons_zero, List.set_cons_succ]
    refine wpAnyM_takeY (i := 29) (v := ?v22) rfl (by kernel_rfl) (by kernel_rfl) (by kernel_rfl) (fun _ _ _ h => h) (by decide) (Or.inl ⟨by rfl, ?hy22⟩) (fun h => absurd h (by decide)) ?rest22
    case hy22 => (intro w; go_simp; first | done | with_reducible rfl)
    try simp only [List.getElem_toArray, List.getElem_cons_succ, List.getElem_cons_zero, Act.put, List.setIfInBounds_toArray, List.set_cons_zero, List.set_cons_succ]
    refine wpAnyM_one (i := 30) (by kernel_rfl) rfl (fun K hK => ?_)
    try simp only [List.getElem_toArray, List.getElem_cons_succ, List.getElem_cons_zero]
    go_simp
    refine hK _ _ (fun h => absurd h (by decide)) ?_
    clear hK K
    try simp only [List.getElem_toArray, List.getElem_cons_succ, List.getElem_cons_zero, Act.put, List.setIfInBounds_toArray, List.set_cons_zero, List.set_cons_succ]
    refine wpAnyM_takeY (i := 31) (v := ?v23) rfl (by kernel_rfl) (by kernel_rfl) (by kernel_rfl) (fun _ _ _ h => h) (by decide) (Or.inl ⟨by rfl, ?hy23⟩) (fun h => absurd h (by decide)) ?rest23
    case hy23 => (intro w; go_simp; first | done | with_reducible rfl)
    try simp only [List.getElem_toArray, List.getElem_cons_succ, List.getElem_cons_zero, Act.put, List.setIfInBounds_toArray, List.set_cons_zero, List.set_cons_succ]
    refine wpAnyM_takeY (i := 32) (v := ?v24) rfl (by kernel_rfl) (by kernel_rfl) (by kernel_rfl) (fun _ _ _ h => h) (by decide) (Or.inl ⟨by rfl, ?hy24⟩) (fun h => absurd h (by decide)) ?rest24
    case hy24 => (intro w; go_simp; first | done | with_reducible rfl)
    try simp only [List.getElem_toArray, List.getElem_cons_succ, List.getElem_cons_zero, Act.put, List.setIfInBounds_toArray, List.set_cons_zero, List.set_cons_succ]
    refine wpAnyM_one (i := 33) (by kernel_rfl) rfl (fun K hK => ?_)
    try simp only [List.getElem_toArray, List.getElem_cons_succ, List.getElem_cons_zero]
    go_simp
    refine hK _ _ (fun h => absurd h (by decide)) ?_
    clear hK K
    try simp only [List.getElem_toArray, List.getElem_cons_succ, List.getElem_cons_zero, Act.put, List.setIfInBounds_toArray, List.set_cons_zero, List.set_cons_succ]
    refine wpAnyM_done (by kernel_rfl) ?_ _
    go_wp2_with fail
    go_ret
    refine ⟨rfl, ?_⟩
    rw [HWR.out]
    exact RfThen.mk (S2 := S.write k (fillUp s)) HR.out HK0.out K5 k hk (fillUp s) (fillUp_length s hs) hn2 hn5 (by rw [← Hxi.out]; exact HV2e.out) (by rw [← Hxs.out]; exact HV5.out) rfl rfl rfl rfl rfl rfl (fun h => absurd (hcut.symm.trans h) (by decide))
  ·
    try simp only [List.getElem_toArray, List.getElem_cons_succ, List.getElem_cons_zero]
    go_simp
    generalize hX : World.drew _ = x0
    have KX : Kp [] w x0 := by rw [← hX]; exact ((Kp.refl [] w).alloc _).drew
    have hN0 : x0.heap[w.heap.size]? = some (.cells #[.int .i64 (k : Int)] 3) := by rw [← hX]; exact heap_alloc_new w _
    have hX0 : w.heap.size < x0.heap.size := by rw [← hX]; simp
    refine hK _ _ (fun _ => rfs_of KX hlb C1 C2 C3) ?_
    clear hK K hX
    try simp only [List.getElem_toArray, List.getElem_cons_succ, List.getElem_cons_zero, Act.put, List.setIfInBounds_toArray, List.set_cons_zero, List.set_cons_succ]
    refine wpAnyM_one (i := 7) (by kernel_rfl) rfl (fun K hK => ?_)
    try simp only [List.getElem_toArray, List.getElem_cons_succ, List.getElem_cons_zero]
    refine Eq.mpr (if_pos rfl) ?_
    refine wp_append_copy (by rfl) _ _ _ (by rfl) 7 3 j0 _ 8 Tryz.underlying54 Hj0.out jz0 jz1 jz2 rfl (by rfl) av S.L.length xi (by rfl) (KX.owns HAt.out (fun _ _ hm => by cases hm)) Hoi.out hln hb8 (Nat.le_trans hg4 KX.size) ?_
    intro v1 x1 hv1 kk1 hm1
    have hn1 : ∀ g, v1.ownBlock = some g → w.heap.size ≤ g := fun g h => Nat.le_trans KX.size (hm1 g h)
    have K1 : Kp [] w x1 := KX.trans kk1
    clear hm1
    have K1b := K1
    have hN1 : x1.heap[w.heap.size]? = some (.cells #[.int .i64 (k : Int)] 3) := (kk1.block w.heap.size hX0 (fun hm => by cases hm)).trans hN0
    clear kk1
    refine hK _ _ (fun _ => rfs_of K1 hlb C1 C2 C3) ?_
    clear hK K
    try simp only [Act.put, List.setIfInBounds_toArray, List.set_cons_zero, List.set_cons_succ]
    refine wpAnyM_one (i := 10) (by kernel_rfl) rfl (fun K hK => ?_)
    try simp only [List.getElem_toArray, List.getElem_cons_succ, List.getElem_cons_zero]
    refine Eq.mpr (if_pos rfl) ?_
    refine wp_append_lies _ _ _ _ (by rfl) 7 3 j0 _ 1 8 Tryz.underlying54 Hj0.out jz0 jz1 jz2 rfl (by decide) v1 S.L.length xi (by rfl) hv1 ⟨w.heap.size, 0, none⟩ 1 1 [.int .i64 (k : Int)] (by rfl) (by rfl) (World.news_of_block (cs := #[.int .i64 (k : Int)]) (t := 3) (fr := (0, 0)) hN1) (by intro u hu; simp at hu; subst hu; rfl) (by decide) hln1 hb81 (Nat.le_trans hg4 K1b.size) _ rfl ?_
    intro gg2 cap2 x2 hv2 hgr2 hat2 hlt2
    have K2 : Kp [] w x2 := K1b.grown hgr2 (fun g hg => .inr (hn1 g hg))
    have hn2 : w.heap.size ≤ gg2 := by
      rcases hat2 with h | h
      · exact hn1 _ h
      · exact Nat.le_trans K1b.size (Nat.le_of_eq h.symm)
    have HV2 := Lib.hid hv2
    clear hv2 hgr2 hat2 hlt2
    refine hK _ _ (fun _ => rfs_of K2 hlb C1 C2 C3) ?_
    clear hK K
    try simp only [Act.put, List.setIfInBounds_toArray, List.set_cons_zero, List.set_cons_succ]
    refine wpAnyM_one (i := 15) (by kernel_rfl) rfl (fun K hK => ?_)
    try simp only [List.getElem_toArray, List.getElem_cons_succ, List.getElem_cons_zero]
    refine Eq.mpr (if_pos rfl) ?_
    refine wp_append_copy (by rfl) _ _ _ (by rfl) 7 9 i0 _ 16 Tryz.underlying34 Hi0.out hz0 hz1 hz2 rfl (by rfl) bv S.L.length xs (by rfl) (K2.owns HBt.out (fun _ _ hm => by cases hm)) Hos.out hln hb16 (Nat.le_trans hg4 K2.size) ?_
    intro v3 x3 hv3 kk3 hm3
    have hn3 : ∀ g, v3.ownBlock = some g → w.heap.size ≤ g ∧ g ≠ gg2 := fun g h => ⟨Nat.le_trans K2.size (hm3 g h), fun e => by have h1 := hm3 g h; have h2 := (owns_lt HV2.out gg2 rfl).2; omega⟩
    have HV2b := Lib.hid (kk3.owns HV2.out (fun _ _ hm => by cases hm))
    have K3 : Kp [] w x3 := K2.trans kk3
    clear hm3
    refine hK _ _ (fun _ => rfs_of K3 hlb C1 C2 C3) ?_
    clear hK K
    try simp only [Act.put, List.setIfInBounds_toArray, List.set_cons_zero, List.set_cons_succ]
    refine wpAnyM_one (i := 17) (by kernel_rfl) rfl (fun K hK => ?_)
    try simp only [List.getElem_toArray, List.getElem_cons_succ, List.getElem_cons_zero]
    go_simp
    go_at_call 28
    refine Calls.mono (filled_any s hs _) ?_
    rintro e x4 ⟨rfl, kk4⟩
    have K4 : Kp [] w x4 := K3.trans kk4
    have HV2c := Lib.hid (kk4.owns HV2b.out (fun _ _ hm => by cases hm))
    have hv3b := kk4.owns hv3 (fun _ _ hm => by cases hm)
    clear hv3 HV2b HV2 kk3 kk4
    try dsimp only
    refine hK _ _ (fun _ => rfs_of K4 hlb C1 C2 C3) ?_
    clear hK K
    try simp only [List.getElem_toArray, List.getElem_cons_succ, List.getElem_cons_zero, Act.put, List.setIfInBounds_toArray, List.set_cons_zero, List.set_cons_succ]
    refine wpAnyM_one (i := 18) (by kernel_rfl) rfl (fun K hK => ?_)
    try simp only [List.getElem_toArray, List.getElem_cons_succ, List.getElem_cons_zero]
    go_simp
    generalize hX : World.alloc _ _ = x4b
    have K4b : Kp [] w x4b := by rw [← hX]; exact K4.alloc _
    have hv3c : x4b.ownsRow 7 9 1 v3 S.L.length xs := by rw [← hX]; exact ((Kp.refl [] x4).alloc _).owns hv3b (fun _ _ hm => by cases hm)
    have HV2d := Lib.hid (show x4b.ownsRow 7 3 1 (.slice (some ⟨gg2, 0, none⟩) (S.L.length + 1) cap2) (S.L.length + 1) (xi ++ [.int .i64 (k : Int)]) by rw [← hX]; exact ((Kp.refl [] x4).alloc _).owns HV2c.out (fun _ _ hm => by cases hm))
    have hN4 : x4b.heap[x4.heap.size]? = some (.cells #[strV (fillUp s)] 9) := by rw [← hX]; exact heap_alloc_new x4 _
    have hX4 : x4.heap.size ≤ x4b.heap.size := by rw [← hX]; simp
    clear hX hv3b HV2c
    refine hK _ _ (fun _ => rfs_of K4b hlb C1 C2 C3) ?_
    clear hK K
    try simp only [List.getElem_toArray, List.getElem_cons_succ, List.getElem_cons_zero, Act.put, List.setIfInBounds_toArray, List.set_cons_zero, List.set_cons_succ]
    refine wpAnyM_one (i := 19) (by kernel_rfl) rfl (fun K hK => ?_)
    try simp only [List.getElem_toArray, List.getElem_cons_succ, List.getElem_cons_zero]
    refine Eq.mpr (if_pos rfl) ?_
    refine wp_append_lies _ _ _ _ (by rfl) 7 9 i0 _ 1 16 Tryz.underlying34 Hi0.out hz0 hz1 hz2 rfl (by decide) v3 S.L.length xs (by rfl) hv3c ⟨x4.heap.size, 0, none⟩ 1 1 [strV (fillUp s)] (by rfl) (by rfl) (World.news_of_block (cs := #[strV (fillUp s)]) (t := 9) (fr := (0, 0)) hN4) (by intro u hu; simp at hu; subst hu; rfl) (by decide) hln1 hb161 (Nat.le_trans hg4 K4b.size) _ rfl ?_
    intro gg5 cap5 x5 hv5 hgr5 hat5 hlt5
    have K5 : Kp [] w x5 := K4b.grown hgr5 (fun g hg => .inr (hn3 g hg).1)
    have hn5 : w.heap.size ≤ gg5 := by
      rcases hat5 with h | h
      · exact (hn3 _ h).1
      · exact Nat.le_trans K4b.size (Nat.le_of_eq h.symm)
    have kg5 : Kp v3.ownBlock.toList x4b x5 := (Kp.refl _ x4b).grown hgr5 (fun k hk => .inl (by simp [hk]))
    have HV2e := Lib.hid (kg5.owns HV2d.out (fun g hg hm => by
      have e1 : gg2 = g := by simpa [Value.ownBlock] using hg
      exact (hn3 g (by simpa using hm)).2 e1.symm))
    have HV5 := Lib.hid hv5
    clear hv5 hgr5 hat5 hlt5 HV2d kg5 hv3c
    refine hK _ _ (fun _ => rfs_of K5 hlb C1 C2 C3) ?_
    clear hK K
    try simp only [Act.put, List.setIfInBounds_toArray, List.set_cons_zero, List.set_cons_succ]
    have e1 : x5.cell? ⟨b, 1, none⟩ = some av := (rfs_of K5 hlb C1 C2 C3).1
    have e2 : x5.cell? ⟨b, 2, none⟩ = some bv := (rfs_of K5 hlb C1 C2 C3).2.1
    have e3 : x5.cell? ⟨b, 3, none⟩ = some (.int .i64 (S.writes : Int)) := (rfs_of K5 hlb C1 C2 C3).2.2
    have g1 : x5.frozen? ⟨b, 1, none⟩ = false := (K5.frozen0 hlb).trans F1
    have g2 : x5.frozen? ⟨b, 2, none⟩ = false := (K5.frozen0 hlb).trans F2
    have g3 : x5.frozen? ⟨b, 3, none⟩ = false := (K5.frozen0 hlb).trans F3
    refine wpAnyM_takeY (i := 25) (v := ?v25) rfl (by kernel_rfl) (by kernel_rfl) (by kernel_rfl) (fun _ _ _ h => h) (by decide) (Or.inl ⟨by rfl, ?hy25⟩) (fun _ => rfs_of K5 hlb C1 C2 C3) ?rest25
    case hy25 => (intro w; go_simp; first | done | with_reducible rfl)
    try simp only [List.getElem_toArray, List.getElem_cons_succ, List.getElem_cons_zero, Act.put, List.setIfInBounds_toArray, List.set_cons_zero, List.set_cons_succ]
    refine wpAnyM_takeY (i := 26) (v := ?v26) rfl (by kernel_rfl) (by kernel_rfl) (by kernel_rfl) (fun _ _ _ h => h) (by decide) (Or.inl ⟨by rfl, ?hy26⟩) (fun _ => rfs_of K5 hlb C1 C2 C3) ?rest26
    case hy26 => (intro w; go_simp; first | done | with_reducible rfl)
    try simp only [List.getElem_toArray, List.getElem_cons_succ, List.getElem_cons_zero, Act.put, List.setIfInBounds_toArray, List.set_cons_zero, List.set_cons_succ]
    refine wpAnyM_one (i := 27) (by kernel_rfl) rfl (fun K hK => ?_)
    try simp only [List.getElem_toArray, List.getElem_cons_succ, List.getElem_cons_zero]
    go_simp
    refine hK _ _ (fun h => absurd h (by decide)) ?_
    clear hK K
    try simp only [List.getElem_toArray, List.getElem_cons_succ, List.getElem_cons_zero, Act.put, List.setIfInBounds_toArray, List.set_cons_zero, List.set_cons_succ]
    refine wpAnyM_takeY (i := 28) (v := ?v27) rfl (by kernel_rfl) (by kernel_rfl) (by kernel_rfl) (fun _ _ _ h => h) (by decide) (Or.inl ⟨by rfl, ?hy27⟩) (fun h => absurd h (by decide)) ?rest27
    case hy27 => (intro w; go_simp; first | done | with_reducible rfl)
    try simp only [List.getElem_toArray, List.getElem_cons_succ, List.getElem_cons_zero, Act.put, List.setIfInBounds_toArray, List.set_cons_zero, List.set_cons_succ]
    refine wpAnyM_takeY (i := 29) (v := ?v28) rfl (by kernel_rfl) (by kernel_rfl) (by kernel_rfl) (fun _ _ _ h => h) (by decide) (Or.inl ⟨by rfl, ?hy28⟩) (fun h => absurd h (by decide)) ?rest28
    case hy28 => (intro w; go_simp; first | done | with_reducible rfl)
    try simp only [List.getElem_toArray, List.getElem_cons_succ, List.getElem_cons_zero, Act.put, List.setIfInBounds_toArray, List.set_cons_zero, List.set_cons_succ]
    refine wpAnyM_one (i := 30) (by kernel_rfl) rfl (fun K hK => ?_)
    try simp only [List.getElem_toArray, List.getElem_cons_succ, List.getElem_cons_zero]
    go_simp
    refine hK _ _ (fun h => absurd h (by decide)) ?_
    clear hK K
    try simp only [List.getElem_toArray, List.getElem_cons_succ, List.getElem_cons_zero, Act.put, List.setIfInBounds_toArray, List.set_cons_zero, List.set_cons_succ]
    refine wpAnyM_takeY (i := 31) (v := ?v29) rfl (by kernel_rfl) (by kernel_rfl) (by kernel_rfl) (fun _ _ _ h => h) (by decide) (Or.inl ⟨by rfl, ?hy29⟩) (fun h => absurd h (by decide)) ?rest29
    case hy29 => (intro w; go_simp; first | done | with_reducible rfl)
    try simp only [List.getElem_toArray, List.getElem_cons_succ, List.getElem_cons_zero, Act.put, List.setIfInBounds_toArray, List.set_cons_zero, List.set_cons_succ]
    refine wpAnyM_takeY (i := 32) (v := ?v30) rfl (by kernel_rfl) (by kernel_rfl) (by kernel_rfl) (fun _ _ _ h => h) (by decide) (Or.inl ⟨by rfl, ?hy30⟩) (fun h => absurd h (by decide)) ?rest30
    case hy30 => (intro w; go_simp; first | done | with_reducible rfl)
    try simp only [List.getElem_toArray, List.getElem_cons_succ, List.getElem_cons_zero, Act.put, List.setIfInBounds_toArray, List.set_cons_zero, List.set_cons_succ]
    refine wpAnyM_one (i := 33) (by kernel_rfl) rfl (fun K hK => ?_)
    try simp only [List.getElem_toArray, List.getElem_cons_succ, List.getElem_cons_zero]
    go_simp
    refine hK _ _ (fun h => absurd h (by decide)) ?_
    clear hK K
    try simp only [List.getElem_toArray, List.getElem_cons_succ, List.getElem_cons_zero, Act.put, List.setIfInBounds_toArray, List.set_cons_zero, List.set_cons_succ]
    refine wpAnyM_done (by kernel_rfl) ?_ _
    go_wp2_with fail
    go_ret
    refine ⟨rfl, ?_⟩
    rw [HWR.out]
    exact RfThen.mk (S2 := S.write k (fillUp s)) HR.out HK0.out K5 k hk (fillUp s) (fillUp_length s hs) hn2 hn5 (by rw [← Hxi.out]; exact HV2e.out) (by rw [← Hxs.out]; exact HV5.out) rfl rfl rfl rfl rfl rfl (fun h => absurd (hcut.symm.trans h) (by decide))
theorem RfAt.setLeft {w : World} {b : Nat} {sv av bv : Value} {S : Dk} (h : RfAt w b sv av bv S) (hcut : S.cut = true) (m : Nat) : RfAt (w.setCell ⟨b, 4, none⟩ (.int .i64 (m : Int))) b sv av bv { S with left := m } := by
  have kp := Kp.set1 w b 4 (.int .i64 (m : Int))
  obtain ⟨n1, n2, n3⟩ := h.nofoot_b
  exact { h with
    c0 := by rw [cell_ne _ _ _ _ _ (by decide)]; exact h.c0
    c1 := by rw [cell_ne _ _ _ _ _ (by decide)]; exact h.c1
    c2 := by rw [cell_ne _ _ _ _ _ (by decide)]; exact h.c2
    c3 := by rw [cell_ne _ _ _ _ _ (by decide)]; exact h.c3
    c4 := by show _ = some (Value.int .i64 (if S.cut then (m : Int) else -1)); rw [if_pos hcut]; exact cell_eq _ _ _ _ _ h.c4
    c5 := by rw [cell_ne _ _ _ _ _ (by decide)]; exact h.c5
    fr := fun o => by rw [frozen_setCell]; exact h.fr o
    ss := kp.owns h.ss n1
    ats := kp.owns h.ats n2
    bts := kp.owns h.bts n3 }
set_option maxHeartbeats 6400000 in
set_option maxRecDepth 20000 in
theorem rfwrite_cut (w : World) (b : Nat) (sv av bv : Value) (S : Dk) (R : RfAt w b sv av bv S) (k : Nat) (hk : k < S.n) (s : ByteArray) (hs : s.size ≤ 64) (hd : S.dead = false) (hcut : S.cut = true) (hleft : 0 < S.left) (hlf : S.left ≤ 9223372036854775807) (hW : S.writes < 4611686018427387904) (hL : S.L.length < 4294967296) :
    Calls Tryz.prog 31 #[.pointer (some ⟨b, 0, none⟩), .int .i64 (k : Int), .string s] w fun e w2 => e = .returned (.int .i64 0) ∧ RfThen b sv (S.write k (fillUp s)) w w2 := by
  have c5 := R.c5
  rw [hd] at c5
  have c4 := R.c4
  rw [hcut, if_pos rfl] at c4
  obtain ⟨sa, sc, rfl⟩ := owns_form R.ss
  have c0 := R.c0
  have hlb0 := R.lb
  have hkn : (k : Int) < (S.n : Int) := by omega
  have hk0 : (0 : Int) ≤ (k : Int) := by omega
  have e64 : decide ((64 : Int) < (s.size : Int)) = false := by simp; omega
  have c6 := R.fr 4
  have hz4 : ((S.left : Int) == 0) = false := by rw [beq_eq_false_iff_ne]; omega
  have hz5 : decide ((0 : Int) < (S.left : Int)) = true := by simp; omega
  obtain ⟨m, hm⟩ : ∃ m : Nat, S.left = m + 1 := ⟨S.left - 1, by omega⟩
  have hm1 : (S.left : Int) - 1 = (m : Int) := by omega
  have HRR := Lib.hid R
  have HMM := Lib.hid hm
  clear hm
  go_enter Tryz.func31, Tryz.ntmps31
  go_wp2_with fail
  generalize hW0 : World.setCell _ _ _ = W0
  have R0 : RfAt W0 b (.slice sa S.n sc) av bv { S with left := m } := by
    rw [← hW0]
    exact HRR.out.setLeft hcut m
  have k00 : Kp [b] w W0 := by rw [← hW0]; exact (Kp.refl [b] w).setCell (.inl (by simp)) _
  have hlen0 : ({ S with left := m } : Dk).L = S.L := rfl
  clear hW0 c0 c4 c5 c6 hlb0 HRR
  have HR := Lib.hid R0
  have HK0 := Lib.hid k00
  have C1 := R0.c1
  have C2 := R0.c2
  have C3 := R0.c3
  have F1 := R0.fr 1
  have F2 := R0.fr 2
  have F3 := R0.fr 3
  have hlb := R0.lb
  obtain ⟨i0, hi0, hz0, hz1, hz2⟩ := info_parts infoStr
  obtain ⟨j0, hj0, jz0, jz1, jz2⟩ := info_parts infoInt
  have Hi0 := Lib.hid hi0
  have Hj0 := Lib.hid hj0
  have hg4 : 7 ≤ W0.heap.size := by have := R0.hb; omega
  clear hi0 hj0 R0 k00
  have HWR : Hid (IntKind.i64.wrap ((S.writes : Int) + 1) = (S.writes : Int) + 1) := by show _ = _; rw [IntKind.wrap_i64]; omega
  have hln : S.L.length ≤ maxLen := by unfold maxLen; omega
  have hln1 : S.L.length + 1 ≤ maxLen := by unfold maxLen; omega
  have hb8 : S.L.length * 8 ≤ 140737488355328 := by omega
  have hb81 : (S.L.length + 1) * 8 ≤ 140737488355328 := by omega
  have hb16 : S.L.length * 16 ≤ 140737488355328 := by omega
  have hb161 : (S.L.length + 1) * 16 ≤ 140737488355328 := by omega
  have hoi : ∀ u ∈ (S.L.map fun x => Value.int .i64 (x.1 : Int)), u.oneCell' = true := by
    intro u hu; obtain ⟨x, _, rfl⟩ := List.mem_map.1 hu; rfl
  have hos : ∀ u ∈ (S.L.map fun x => strV x.2), u.oneCell' = true := by
    intro u hu; obtain ⟨x, _, rfl⟩ := List.mem_map.1 hu; rfl
  have Hoi := Lib.hid hoi
  have Hos := Lib.hid hos
  clear hoi hos
  obtain ⟨xi, hxi⟩ : ∃ xi, xi = (S.L.map fun x => Value.int .i64 (x.1 : Int)) := ⟨_, rfl⟩
  obtain ⟨xs, hxs⟩ : ∃ xs, xs = (S.L.map fun x => strV x.2) := ⟨_, rfl⟩
  have HAt := Lib.hid HR.out.ats
  have HBt := Lib.hid HR.out.bts
  rw [← hxi] at HAt Hoi
  rw [← hxs] at HBt Hos
  have Hxi := Lib.hid hxi
  have Hxs := Lib.hid hxs
  clear hxi hxs
  have hS : RfS b av bv S.writes W0.drew := ⟨C1, C2, C3⟩
  have KA : Kp [] W0 W0.drew := (Kp.refl [] W0).drew
  refine wp_region_M (RfS b av bv S.writes) 27 (by kernel_rfl) ?_
  refine wpAnyM_takeY (i := 0) (v := ?v1) rfl (by kernel_rfl) (by kernel_rfl) (by kernel_rfl) (fun _ _ _ h => h) (by decide) (Or.inl ⟨by rfl, ?hy1⟩) (fun _ => hS) ?rest1
  case hy1 => (intro w; go_simp; first | done | with_reducible rfl)
  try simp only [List.getElem_toArray, List.getElem_cons_zero, Act.put, List.setIfInBounds_toArray, List.set_cons_zero, List.set_cons_succ]
  refine wpAnyM_takeY (i := 1) (v := ?v2) rfl (by kernel_rfl) (by kernel_rfl) (by kernel_rfl) (fun _ _ _ h => h) (by decide) (Or.inl ⟨by rfl, ?hy2⟩) (fun _ => hS) ?rest2
  case hy2 => (intro w; go_simp; first | done | with_reducible rfl)
  try simp only [List.getElem_toArray, List.getElem_cons_succ, List.getElem_cons_zero, Act.put, List.setIfInBounds_toArray, List.set_cons_zero, List.set_cons_succ]
  refine wpAnyM_takeY (i := 2) (v := ?v3) rfl (by kernel_rfl) (by kernel_rfl) (by kernel_rfl) (fun _ _ _ h => h) (by decide) (Or.inl ⟨by rfl, ?hy3⟩) (fun _ => hS) ?rest3
  case hy3 => (intro w; go_simp; first | done | with_reducible rfl)
  try simp only [List.getElem_toArray, List.getElem_cons_succ, List.getElem_cons_zero, Act.put, List.setIfInBounds_toArray, List.set_cons_zero, List.set_cons_succ]
  refine wpAnyM_takeY (i := 3) (v := ?v4) rfl (by kernel_rfl) (by kernel_rfl) (by kernel_rfl) (fun _ _ _ h => h) (by decide) (Or.inl ⟨by rfl, ?hy4⟩) (fun _ => hS) ?rest4
  case hy4 => (intro w; go_simp; first | done | with_reducible rfl)
  try simp only [List.getElem_toArray, List.getElem_cons_succ, List.getElem_cons_zero, Act.put, List.setIfInBounds_toArray, List.set_cons_zero, List.set_cons_succ]
  refine wpAnyM_takeY (i := 4) (v := ?v5) rfl (by kernel_rfl) (by kernel_rfl) (by kernel_rfl) (fun _ _ _ h => h) (by decide) (Or.inl ⟨by rfl, ?hy5⟩) (fun _ => hS) ?rest5
  case hy5 => (intro w; go_simp; first | done | with_reducible rfl)
  try simp only [List.getElem_toArray, List.getElem_cons_succ, List.getElem_cons_zero, Act.put, List.setIfInBounds_toArray, List.set_cons_zero, List.set_cons_succ]
  refine wpAnyM_takeY (i := 5) (v := ?v6) rfl (by kernel_rfl) (by kernel_rfl) (by kernel_rfl) (fun _ _ _ h => h) (by decide) (Or.inl ⟨by rfl, ?hy6⟩) (fun _ => hS) ?rest6
  case hy6 => (intro w; go_simp; first | done | with_reducible rfl)
  try simp only [List.getElem_toArray, List.getElem_cons_succ, List.getElem_cons_zero, Act.put, List.setIfInBounds_toArray, List.set_cons_zero, List.set_cons_succ]
  refine wpAnyM_takeY (i := 8) (v := ?v7) rfl (by kernel_rfl) (by kernel_rfl) (by kernel_rfl) (fun _ _ _ h => h) (by decide) (Or.inl ⟨by rfl, ?hy7⟩) (fun _ => hS) ?rest7
  case hy7 => (intro w; go_simp; first | done | with_reducible rfl)
  try simp only [List.getElem_toArray, List.getElem_cons_succ, List.getElem_cons_zero, Act.put, List.setIfInBounds_toArray, List.set_cons_zero, List.set_cons_succ]
  refine wpAnyM_takeY (i := 11) (v := ?v8) rfl (by kernel_rfl) (by kernel_rfl) (by kernel_rfl) (fun _ _ _ h => h) (by decide) (Or.inl ⟨by rfl, ?hy8⟩) (fun _ => hS) ?rest8
  case hy8 => (intro w; go_simp; first | done | with_reducible rfl)
  try simp only [List.getElem_toArray, List.getElem_cons_succ, List.getElem_cons_zero, Act.put, List.setIfInBounds_toArray, List.set_cons_zero, List.set_cons_succ]
  refine wpAnyM_takeY (i := 12) (v := ?v9) rfl (by kernel_rfl) (by kernel_rfl) (by kernel_rfl) (fun _ _ _ h => h) (by decide) (Or.inl ⟨by rfl, ?hy9⟩) (fun _ => hS) ?rest9
  case hy9 => (intro w; go_simp; first | done | with_reducible rfl)
  try simp only [List.getElem_toArray, List.getElem_cons_succ, List.getElem_cons_zero, Act.put, List.setIfInBounds_toArray, List.set_cons_zero, List.set_cons_succ]
  refine wpAnyM_takeY (i := 13) (v := ?v10) rfl (by kernel_rfl) (by kernel_rfl) (by kernel_rfl) (fun _ _ _ h => h) (by decide) (Or.inl ⟨by rfl, ?hy10⟩) (fun _ => hS) ?rest10
  case hy10 => (intro w; go_simp; first | done | with_reducible rfl)
  try simp only [List.getElem_toArray, List.getElem_cons_succ, List.getElem_cons_zero, Act.put, List.setIfInBounds_toArray, List.set_cons_zero, List.set_cons_succ]
  refine wpAnyM_takeY (i := 16) (v := ?v11) rfl (by kernel_rfl) (by kernel_rfl) (by kernel_rfl) (fun _ _ _ h => h) (by decide) (Or.inl ⟨by rfl, ?hy11⟩) (fun _ => hS) ?rest11
  case hy11 => (intro w; go_simp; first | done | with_reducible rfl)
  try simp only [List.getElem_toArray, List.getElem_cons_succ, List.getElem_cons_zero, Act.put, List.setIfInBounds_toArray, List.set_cons_zero, List.set_cons_succ]
  refine wpAnyM_takeY (i := 20) (v := ?v12) rfl (by kernel_rfl) (by kernel_rfl) (by kernel_rfl) (fun _ _ _ h => h) (by decide) (Or.inl ⟨by rfl, ?hy12⟩) (fun _ => hS) ?rest12
  case hy12 => (intro w; go_simp; first | done | with_reducible rfl)
  try simp only [List.getElem_toArray, List.getElem_cons_succ, List.getElem_cons_zero, Act.put, List.setIfInBounds_toArray, List.set_cons_zero, List.set_cons_succ]
  refine wpAnyM_takeY (i := 21) (v := ?v13) rfl (by kernel_rfl) (by kernel_rfl) (by kernel_rfl) (fun _ _ _ h => h) (by decide) (Or.inl ⟨by rfl, ?hy13⟩) (fun _ => hS) ?rest13
  case hy13 => (intro w; go_simp; first | done | with_reducible rfl)
  try simp only [List.getElem_toArray, List.getElem_cons_succ, List.getElem_cons_zero, Act.put, List.setIfInBounds_toArray, List.set_cons_zero, List.set_cons_succ]
  refine wpAnyM_takeY (i := 22) (v := ?v14) rfl (by kernel_rfl) (by kernel_rfl) (by kernel_rfl) (fun _ _ _ h => h) (by decide) (Or.inl ⟨by rfl, ?hy14⟩) (fun _ => hS) ?rest14
  case hy14 => (intro w; go_simp; first | done | with_reducible rfl)
  try simp only [List.getElem_toArray, List.getElem_cons_succ, List.getElem_cons_zero, Act.put, List.setIfInBounds_toArray, List.set_cons_zero, List.set_cons_succ]
  refine wpAnyM_takeL (i := 6) (v := ?v15) rfl (by kernel_rfl) (by kernel_rfl) (by kernel_rfl) (fun _ _ _ h => h) (by decide) (by kernel_rfl) (by kernel_rfl) (Or.inl ⟨by rfl, ?hy15⟩) hS ?rest15
  case hy15 => (intro w hS; obtain ⟨s1, s2, s3⟩ := hS; go_simp; first | done | with_reducible rfl)
  try simp only [List.getElem_toArray, List.getElem_cons_succ, List.getElem_cons_zero, Act.put, List.setIfInBounds_toArray, List.set_cons_zero, List.set_cons_succ]
  refine wpAnyM_takeL (i := 14) (v := ?v16) rfl (by kernel_rfl) (by kernel_rfl) (by kernel_rfl) (fun _ _ _ h => h) (by decide) (by kernel_rfl) (by kernel_rfl) (Or.inl ⟨by rfl, ?hy16⟩) hS ?rest16
  case hy16 => (intro w hS; obtain ⟨s1, s2, s3⟩ := hS; go_simp; first | done | with_reducible rfl)
  try simp only [List.getElem_toArray, List.getElem_cons_succ, List.getElem_cons_zero, Act.put, List.setIfInBounds_toArray, List.set_cons_zero, List.set_cons_succ]
  refine wpAnyM_takeL (i := 23) (v := ?v17) rfl (by kernel_rfl) (by kernel_rfl) (by kernel_rfl) (fun _ _ _ h => h) (by decide) (by kernel_rfl) (by kernel_rfl) (Or.inl ⟨by rfl, ?hy17⟩) hS ?rest17
  case hy17 => (intro w hS; obtain ⟨s1, s2, s3⟩ := hS; go_simp; first | done | with_reducible rfl)
  try simp only [List.getElem_toArray, List.getElem_cons_succ, List.getElem_cons_zero, Act.put, List.setIfInBounds_toArray, List.set_cons_zero, List.set_cons_succ]
  refine wpAnyM_takeY (i := 24) (v := ?v18) rfl (by kernel_rfl) (by kernel_rfl) (by kernel_rfl) (fun _ _ _ h => h) (by decide) (Or.inl ⟨by rfl, ?hy18⟩) (fun _ => hS) ?rest18
  case hy18 => (intro w; go_simp; first | done | with_reducible rfl)
  try simp only [List.getElem_toArray, List.getElem_cons_succ, List.getElem_cons_zero, Act.put, List.setIfInBounds_toArray, List.set_cons_zero, List.set_cons_succ]
  refine wpAnyM_two (i := 7) (j := 9) (by kernel_rfl) rfl rfl (fun K hK => ?_) (fun K hK => ?_)
  ·
    try simp only [List.getElem_toArray, List.getElem_cons_succ, List.getElem_cons_zero]
    refine Eq.mpr (if_pos rfl) ?_
    refine wp_append_copy (by rfl) _ _ _ (by rfl) 7 3 j0 _ 8 Tryz.underlying54 Hj0.out jz0 jz1 jz2 rfl (by rfl) av S.L.length xi (by rfl) (KA.owns HAt.out (fun _ _ hm => by cases hm)) Hoi.out hln hb8 (Nat.le_trans hg4 KA.size) ?_
    intro v1 x1 hv1 kk1 hm1
    have hn1 : ∀ g, v1.ownBlock = some g → W0.heap.size ≤ g := fun g h => Nat.le_trans KA.size (hm1 g h)
    have K1 : Kp [] W0 x1 := KA.trans kk1
    clear hm1
    refine hK _ _ (fun _ => rfs_of K1 hlb C1 C2 C3) ?_
    clear hK K
    try simp only [Act.put, List.setIfInBounds_toArray, List.set_cons_zero, List.set_cons_succ]
    refine wpAnyM_one (i := 9) (by kernel_rfl) rfl (fun K hK => ?_)
    try simp only [List.getElem_toArray, List.getElem_cons_succ, List.getElem_cons_zero]
    go_simp
    generalize hX : World.alloc _ _ = x1b
    have K1b : Kp [] W0 x1b := by rw [← hX]; exact K1.alloc _
    have hv1b : x1b.ownsRow 7 3 1 v1 S.L.length xi := by rw [← hX]; exact ((Kp.refl [] x1).alloc _).owns hv1 (fun _ _ hm => by cases hm)
    have hN1 : x1b.heap[x1.heap.size]? = some (.cells #[.int .i64 (k : Int)] 3) := by rw [← hX]; exact heap_alloc_new x1 _
    clear hX hv1 kk1
    refine hK _ _ (fun _ => rfs_of K1b hlb C1 C2 C3) ?_
    clear hK K
    try simp only [List.getElem_toArray, List.getElem_cons_succ, List.getElem_cons_zero, Act.put, List.setIfInBounds_toArray, List.set_cons_zero, List.set_cons_succ]
    refine wpAnyM_one (i := 10) (by kernel_rfl) rfl (fun K hK => ?_)
    try simp only [List.getElem_toArray, List.getElem_cons_succ, List.getElem_cons_zero]
    refine Eq.mpr (if_pos rfl) ?_
    refine wp_append_lies _ _ _ _ (by rfl) 7 3 j0 _ 1 8 Tryz.underlying54 Hj0.out jz0 jz1 jz2 rfl (by decide) v1 S.L.length xi (by rfl) hv1b ⟨x1.heap.size, 0, none⟩ 1 1 [.int .i64 (k : Int)] (by rfl) (by rfl) (World.news_of_block (cs := #[.int .i64 (k : Int)]) (t := 3) (fr := (0, 0)) hN1) (by intro u hu; simp at hu; subst hu; rfl) (by decide) hln1 hb81 (Nat.le_trans hg4 K1b.size) _ rfl ?_
    intro gg2 cap2 x2 hv2 hgr2 hat2 hlt2
    have K2 : Kp [] W0 x2 := K1b.grown hgr2 (fun g hg => .inr (hn1 g hg))
    have hn2 : W0.heap.size ≤ gg2 := by
      rcases hat2 with h | h
      · exact hn1 _ h
      · exact Nat.le_trans K1b.size (Nat.le_of_eq h.symm)
    have HV2 := Lib.hid hv2
    clear hv2 hgr2 hat2 hlt2
    refine hK _ _ (fun _ => rfs_of K2 hlb C1 C2 C3) ?_
    clear hK K
    try simp only [Act.put, List.setIfInBounds_toArray, List.set_cons_zero, List.set_cons_succ]
    refine wpAnyM_one (i := 15) (by kernel_rfl) rfl (fun K hK => ?_)
    try simp only [List.getElem_toArray, List.getElem_cons_succ, List.getElem_cons_zero]
    refine Eq.mpr (if_pos rfl) ?_
    refine wp_append_copy (by rfl) _ _ _ (by rfl) 7 9 i0 _ 16 Tryz.underlying34 Hi0.out hz0 hz1 hz2 rfl (by rfl) bv S.L.length xs (by rfl) (K2.owns HBt.out (fun _ _ hm => by cases hm)) Hos.out hln hb16 (Nat.le_trans hg4 K2.size) ?_
    intro v3 x3 hv3 kk3 hm3
    have hn3 : ∀ g, v3.ownBlock = some g → W0.heap.size ≤ g ∧ g ≠ gg2 := fun g h => ⟨Nat.le_trans K2.size (hm3 g h), fun e => by have h1 := hm3 g h; have h2 := (owns_lt HV2.out gg2 rfl).2; omega⟩
    have HV2b := Lib.hid (kk3.owns HV2.out (fun _ _ hm => by cases hm))
    have K3 : Kp [] W0 x3 := K2.trans kk3
    clear hm3
    refine hK _ _ (fun _ => rfs_of K3 hlb C1 C2 C3) ?_
    clear hK K
    try simp only [Act.put, List.setIfInBounds_toArray, List.set_cons_zero, List.set_cons_succ]
    refine wpAnyM_one (i := 17) (by kernel_rfl) rfl (fun K hK => ?_)
    try simp only [List.getElem_toArray, List.getElem_cons_succ, List.getElem_cons_zero]
    go_simp
    go_at_call 28
    refine Calls.mono (filled_any s hs _) ?_
    rintro e x4 ⟨rfl, kk4⟩
    have K4 : Kp [] W0 x4 := K3.trans kk4
    have HV2c := Lib.hid (kk4.owns HV2b.out (fun _ _ hm => by cases hm))
    have hv3b := kk4.owns hv3 (fun _ _ hm => by cases hm)
    clear hv3 HV2b HV2 kk3 kk4
    try dsimp only
    refine hK _ _ (fun _ => rfs_of K4 hlb C1 C2 C3) ?_
    clear hK K
    try simp only [List.getElem_toArray, List.getElem_cons_succ, List.getElem_cons_zero, Act.put, List.setIfInBounds_toArray, List.set_cons_zero, List.set_cons_succ]
    refine wpAnyM_one (i := 18) (by kernel_rfl) rfl (fun K hK => ?_)
    try simp only [List.getElem_toArray, List.getElem_cons_succ, List.getElem_cons_zero]
    go_simp
    generalize hX : World.alloc _ _ = x4b
    have K4b : Kp [] W0 x4b := by rw [← hX]; exact K4.alloc _
    have hv3c : x4b.ownsRow 7 9 1 v3 S.L.length xs := by rw [← hX]; exact ((Kp.refl [] x4).alloc _).owns hv3b (fun _ _ hm => by cases hm)
    have HV2d := Lib.hid (show x4b.ownsRow 7 3 1 (.slice (some ⟨gg2, 0, none⟩) (S.L.length + 1) cap2) (S.L.length + 1) (xi ++ [.int .i64 (k : Int)]) by rw [← hX]; exact ((Kp.refl [] x4).alloc _).owns HV2c.out (fun _ _ hm => by cases hm))
    have hN4 : x4b.heap[x4.heap.size]? = some (.cells #[strV (fillUp s)] 9) := by rw [← hX]; exact heap_alloc_new x4 _
    have hX4 : x4.heap.size ≤ x4b.heap.size := by rw [← hX]; simp
    clear hX hv3b HV2c
    refine hK _ _ (fun _ => rfs_of K4b hlb C1 C2 C3) ?_
    clear hK K
    try simp only [List.getElem_toArray, List.getElem_cons_succ, List.getElem_cons_zero, Act.put, List.setIfInBounds_toArray, List.set_cons_zero, List.set_cons_succ]
    refine wpAnyM_one (i := 19) (by kernel_rfl) rfl (fun K hK => ?_)
    try simp only [List.getElem_toArray, List.getElem_cons_succ, List.getElem_cons_zero]
    refine Eq.mpr (if_pos rfl) ?_
    refine wp_append_lies _ _ _ _ (by rfl) 7 9 i0 _ 1 16 Tryz.underlying34 Hi0.out hz0 hz1 hz2 rfl (by decide) v3 S.L.length xs (by rfl) hv3c ⟨x4.heap.size, 0, none⟩ 1 1 [strV (fillUp s)] (by rfl) (by rfl) (World.news_of_block (cs := #[strV (fillUp s)]) (t := 9) (fr := (0, 0)) hN4) (by intro u hu; simp at hu; subst hu; rfl) (by decide) hln1 hb161 (Nat.le_trans hg4 K4b.size) _ rfl ?_
    intro gg5 cap5 x5 hv5 hgr5 hat5 hlt5
    have K5 : Kp [] W0 x5 := K4b.grown hgr5 (fun g hg => .inr (hn3 g hg).1)
    have hn5 : W0.heap.size ≤ gg5 := by
      rcases hat5 with h | h
      · exact (hn3 _ h).1
      · exact Nat.le_trans K4b.size (Nat.le_of_eq h.symm)
    have kg5 : Kp v3.ownBlock.toList x4b x5 := (Kp.refl _ x4b).grown hgr5 (fun k hk => .inl (by simp [hk]))
    have HV2e := Lib.hid (kg5.owns HV2d.out (fun g hg hm => by
      have e1 : gg2 = g := by simpa [Value.ownBlock] using hg
      exact (hn3 g (by simpa using hm)).2 e1.symm))
    have HV5 := Lib.hid hv5
    clear hv5 hgr5 hat5 hlt5 HV2d kg5 hv3c
    refine hK _ _ (fun _ => rfs_of K5 hlb C1 C2 C3) ?_
    clear hK K
    try simp only [Act.put, List.setIfInBounds_toArray, List.set_cons_zero, List.set_cons_succ]
    have e1 : x5.cell? ⟨b, 1, none⟩ = some av := (rfs_of K5 hlb C1 C2 C3).1
    have e2 : x5.cell? ⟨b, 2, none⟩ = some bv := (rfs_of K5 hlb C1 C2 C3).2.1
    have e3 : x5.cell? ⟨b, 3, none⟩ = some (.int .i64 (S.writes : Int)) := (rfs_of K5 hlb C1 C2 C3).2.2
    have g1 : x5.frozen? ⟨b, 1, none⟩ = false := (K5.frozen0 hlb).trans F1
    have g2 : x5.frozen? ⟨b, 2, none⟩ = false := (K5.frozen0 hlb).trans F2
    have g3 : x5.frozen? ⟨b, 3, none⟩ = false := (K5.frozen0 hlb).trans F3
    refine wpAnyM_takeY (i := 25) (v := ?v19) rfl (by kernel_rfl) (by kernel_rfl) (by kernel_rfl) (fun _ _ _ h => h) (by decide) (Or.inl ⟨by rfl, ?hy19⟩) (fun _ => rfs_of K5 hlb C1 C2 C3) ?rest19
    case hy19 => (intro w; go_simp; first | done | with_reducible rfl)
    try simp only [List.getElem_toArray, List.getElem_cons_succ, List.getElem_cons_zero, Act.put, List.setIfInBounds_toArray, List.set_cons_zero, List.set_cons_succ]
    refine wpAnyM_takeY (i := 26) (v := ?v20) rfl (by kernel_rfl) (by kernel_rfl) (by kernel_rfl) (fun _ _ _ h => h) (by decide) (Or.inl ⟨by rfl, ?hy20⟩) (fun _ => rfs_of K5 hlb C1 C2 C3) ?rest20
    case hy20 => (intro w; go_simp; first | done | with_reducible rfl)
    try simp only [List.getElem_toArray, List.getElem_cons_succ, List.getElem_cons_zero, Act.put, List.setIfInBounds_toArray, List.set_cons_zero, List.set_cons_succ]
    refine wpAnyM_one (i := 27) (by kernel_rfl) rfl (fun K hK => ?_)
    try simp only [List.getElem_toArray, List.getElem_cons_succ, List.getElem_cons_zero]
    go_simp
    refine hK _ _ (fun h => absurd h (by decide)) ?_
    clear hK K
    try simp only [List.getElem_toArray, List.getElem_cons_succ, List.getElem_cons_zero, Act.put, List.setIfInBounds_toArray, List.set_cons_zero, List.set_cons_succ]
    refine wpAnyM_takeY (i := 28) (v := ?v21) rfl (by kernel_rfl) (by kernel_rfl) (by kernel_rfl) (fun _ _ _ h => h) (by decide) (Or.inl ⟨by rfl, ?hy21⟩) (fun h => absurd h (by decide)) ?rest21
    case hy21 => (intro w; go_simp; first | done | with_reducible rfl)
    try simp only [List.getElem_toArray, List.getElem_cons_succ, List.getElem_cons_zero, Act.put, List.setIfInBounds_toArray, List.set_cons_zero, List.set_cons_succ]
    refine wpAnyM_takeY (i := 29) (v := ?v22) rfl (by kernel_rfl) (by kernel_rfl) (by kernel_rfl) (fun _ _ _ h => h) (by decide) (Or.inl ⟨by rfl, ?hy22⟩) (fun h => absurd h (by decide)) ?rest22
    case hy22 => (intro w; go_simp; first | done | with_reducible rfl)
    try simp only [List.getElem_toArray, List.getElem_cons_succ, List.getElem_cons_zero, Act.put, List.setIfInBounds_toArray, List.set_cons_zero, List.set_cons_succ]
    refine wpAnyM_one (i := 30) (by kernel_rfl) rfl (fun K hK => ?_)
    try simp only [List.getElem_toArray, List.getElem_cons_succ, List.getElem_cons_zero]
    go_simp
    refine hK _ _ (fun h => absurd h (by decide)) ?_
    clear hK K
    try simp only [List.getElem_toArray, List.getElem_cons_succ, List.getElem_cons_zero, Act.put, List.setIfInBounds_toArray, List.set_cons_zero, List.set_cons_succ]
    refine wpAnyM_takeY (i := 31) (v := ?v23) rfl (by kernel_rfl) (by kernel_rfl) (by kernel_rfl) (fun _ _ _ h => h) (by decide) (Or.inl ⟨by rfl, ?hy23⟩) (fun h => absurd h (by decide)) ?rest23
    case hy23 => (intro w; go_simp; first | done | with_reducible rfl)
    try simp only [List.getElem_toArray, List.getElem_cons_succ, List.getElem_cons_zero, Act.put, List.setIfInBounds_toArray, List.set_cons_zero, List.set_cons_succ]
    refine wpAnyM_takeY (i := 32) (v := ?v24) rfl (by kernel_rfl) (by kernel_rfl) (by kernel_rfl) (fun _ _ _ h => h) (by decide) (Or.inl ⟨by rfl, ?hy24⟩) (fun h => absurd h (by decide)) ?rest24
    case hy24 => (intro w; go_simp; first | done | with_reducible rfl)
    try simp only [List.getElem_toArray, List.getElem_cons_succ, List.getElem_cons_zero, Act.put, List.setIfInBounds_toArray, List.set_cons_zero, List.set_cons_succ]
    refine wpAnyM_one (i := 33) (by kernel_rfl) rfl (fun K hK => ?_)
    try simp only [List.getElem_toArray, List.getElem_cons_succ, List.getElem_cons_zero]
    go_simp
    refine hK _ _ (fun h => absurd h (by decide)) ?_
    clear hK K
    try simp only [List.getElem_toArray, List.getElem_cons_succ, List.getElem_cons_zero, Act.put, List.setIfInBounds_toArray, List.set_cons_zero, List.set_cons_succ]
    refine wpAnyM_done (by kernel_rfl) ?_ _
    go_wp2_with fail
    go_ret
    refine ⟨rfl, ?_⟩
    rw [HWR.out]
    exact RfThen.mk (S2 := S.write k (fillUp s)) HR.out HK0.out K5 k hk (fillUp s) (fillUp_length s hs) hn2 hn5 (by rw [← Hxi.out]; exact HV2e.out) (by rw [← Hxs.out]; exact HV5.out) rfl rfl rfl rfl rfl rfl (fun _ => by show (if S.cut then S.left - 1 else S.left) = m; rw [if_pos hcut, HMM.out]; omega)
  ·
    try simp only [List.getElem_toArray, List.getElem_cons_succ, List.getElem_cons_zero]
    go_simp
    generalize hX : World.drew _ = x0
    have KX : Kp [] W0 x0 := by rw [← hX]; exact ((Kp.refl [] W0).alloc _).drew
    have hN0 : x0.heap[W0.heap.size]? = some (.cells #[.int .i64 (k : Int)] 3) := by rw [← hX]; exact heap_alloc_new W0 _
    have hX0 : W0.heap.size < x0.heap.size := by rw [← hX]; simp
    refine hK _ _ (fun _ => rfs_of KX hlb C1 C2 C3) ?_
    clear hK K hX
    try simp only [List.getElem_toArray, List.getElem_cons_succ, List.getElem_cons_zero, Act.put, List.setIfInBounds_toArray, List.set_cons_zero, List.set_cons_succ]
    refine wpAnyM_one (i := 7) (by kernel_rfl) rfl (fun K hK => ?_)
    try simp only [List.getElem_toArray, List.getElem_cons_succ, List.getElem_cons_zero]
    refine Eq.mpr (if_pos rfl) ?_
    refine wp_append_copy (by rfl) _ _ _ (by rfl) 7 3 j0 _ 8 Tryz.underlying54 Hj0.out jz0 jz1 jz2 rfl (by rfl) av S.L.length xi (by rfl) (KX.owns HAt.out (fun _ _ hm => by cases hm)) Hoi.out hln hb8 (Nat.le_trans hg4 KX.size) ?_
    intro v1 x1 hv1 kk1 hm1
    have hn1 : ∀ g, v1.ownBlock = some g → W0.heap.size ≤ g := fun g h => Nat.le_trans KX.size (hm1 g h)
    have K1 : Kp [] W0 x1 := KX.trans kk1
    clear hm1
    have K1b := K1
    have hN1 : x1.heap[W0.heap.size]? = some (.cells #[.int .i64 (k : Int)] 3) := (kk1.block W0.heap.size hX0 (fun hm => by cases hm)).trans hN0
    clear kk1
    refine hK _ _ (fun _ => rfs_of K1 hlb C1 C2 C3) ?_
    clear hK K
    try simp only [Act.put, List.setIfInBounds_toArray, List.set_cons_zero, List.set_cons_succ]
    refine wpAnyM_one (i := 10) (by kernel_rfl) rfl (fun K hK => ?_)
    try simp only [List.getElem_toArray, List.getElem_cons_succ, List.getElem_cons_zero]
    refine Eq.mpr (if_pos rfl) ?_
    refine wp_append_lies _ _ _ _ (by rfl) 7 3 j0 _ 1 8 Tryz.underlying54 Hj0.out jz0 jz1 jz2 rfl (by decide) v1 S.L.length xi (by rfl) hv1 ⟨W0.heap.size, 0, none⟩ 1 1 [.int .i64 (k : Int)] (by rfl) (by rfl) (World.news_of_block (cs := #[.int .i64 (k : Int)]) (t := 3) (fr := (0, 0)) hN1) (by intro u hu; simp at hu; subst hu; rfl) (by decide) hln1 hb81 (Nat.le_trans hg4 K1b.size) _ rfl ?_
    intro gg2 cap2 x2 hv2 hgr2 hat2 hlt2
    have K2 : Kp [] W0 x2 := K1b.grown hgr2 (fun g hg => .inr (hn1 g hg))
    have hn2 : W0.heap.size ≤ gg2 := by
      rcases hat2 with h | h
      · exact hn1 _ h
      · exact Nat.le_trans K1b.size (Nat.le_of_eq h.symm)
    have HV2 := Lib.hid hv2
    clear hv2 hgr2 hat2 hlt2
    refine hK _ _ (fun _ => rfs_of K2 hlb C1 C2 C3) ?_
    clear hK K
    try simp only [Act.put, List.setIfInBounds_toArray, List.set_cons_zero, List.set_cons_succ]
    refine wpAnyM_one (i := 15) (by kernel_rfl) rfl (fun K hK => ?_)
    try simp only [List.getElem_toArray, List.getElem_cons_succ, List.getElem_cons_zero]
    refine Eq.mpr (if_pos rfl) ?_
    refine wp_append_copy (by rfl) _ _ _ (by rfl) 7 9 i0 _ 16 Tryz.underlying34 Hi0.out hz0 hz1 hz2 rfl (by rfl) bv S.L.length xs (by rfl) (K2.owns HBt.out (fun _ _ hm => by cases hm)) Hos.out hln hb16 (Nat.le_trans hg4 K2.size) ?_
    intro v3 x3 hv3 kk3 hm3
    have hn3 : ∀ g, v3.ownBlock = some g → W0.heap.size ≤ g ∧ g ≠ gg2 := fun g h => ⟨Nat.le_trans K2.size (hm3 g h), fun e => by have h1 := hm3 g h; have h2 := (owns_lt HV2.out gg2 rfl).2; omega⟩
    have HV2b := Lib.hid (kk3.owns HV2.out (fun _ _ hm => by cases hm))
    have K3 : Kp [] W0 x3 := K2.trans kk3
    clear hm3
    refine hK _ _ (fun _ => rfs_of K3 hlb C1 C2 C3) ?_
    clear hK K
    try simp only [Act.put, List.setIfInBounds_toArray, List.set_cons_zero, List.set_cons_succ]
    refine wpAnyM_one (i := 17) (by kernel_rfl) rfl (fun K hK => ?_)
    try simp only [List.getElem_toArray, List.getElem_cons_succ, List.getElem_cons_zero]
    go_simp
    go_at_call 28
    refine Calls.mono (filled_any s hs _) ?_
    rintro e x4 ⟨rfl, kk4⟩
    have K4 : Kp [] W0 x4 := K3.trans kk4
    have HV2c := Lib.hid (kk4.owns HV2b.out (fun _ _ hm => by cases hm))
    have hv3b := kk4.owns hv3 (fun _ _ hm => by cases hm)
    clear hv3 HV2b HV2 kk3 kk4
    try dsimp only
    refine hK _ _ (fun _ => rfs_of K4 hlb C1 C2 C3) ?_
    clear hK K
    try simp only [List.getElem_toArray, List.getElem_cons_succ, List.getElem_cons_zero, Act.put, List.setIfInBounds_toArray, List.set_cons_zero, List.set_cons_succ]
    refine wpAnyM_one (i := 18) (by kernel_rfl) rfl (fun K hK => ?_)
    try simp only [List.getElem_toArray, List.getElem_cons_succ, List.getElem_cons_zero]
    go_simp
    generalize hX : World.alloc _ _ = x4b
    have K4b : Kp [] W0 x4b := by rw [← hX]; exact K4.alloc _
    have hv3c : x4b.ownsRow 7 9 1 v3 S.L.length xs := by rw [← hX]; exact ((Kp.refl [] x4).alloc _).owns hv3b (fun _ _ hm => by cases hm)
    have HV2d := Lib.hid (show x4b.ownsRow 7 3 1 (.slice (some ⟨gg2, 0, none⟩) (S.L.length + 1) cap2) (S.L.length + 1) (xi ++ [.int .i64 (k : Int)]) by rw [← hX]; exact ((Kp.refl [] x4).alloc _).owns HV2c.out (fun _ _ hm => by cases hm))
    have hN4 : x4b.heap[x4.heap.size]? = some (.cells #[strV (fillUp s)] 9) := by rw [← hX]; exact heap_alloc_new x4 _
    have hX4 : x4.heap.size ≤ x4b.heap.size := by rw [← hX]; simp
    clear hX hv3b HV2c
    refine hK _ _ (fun _ => rfs_of K4b hlb C1 C2 C3) ?_
    clear hK K
    try simp only [List.getElem_toArray, List.getElem_cons_succ, List.getElem_cons_zero, Act.put, List.setIfInBounds_toArray, List.set_cons_zero, List.set_cons_succ]
    refine wpAnyM_one (i := 19) (by kernel_rfl) rfl (fun K hK => ?_)
    try simp only [List.getElem_toArray, List.getElem_cons_succ, List.getElem_cons_zero]
    refine Eq.mpr (if_pos rfl) ?_
    refine wp_append_lies _ _ _ _ (by rfl) 7 9 i0 _ 1 16 Tryz.underlying34 Hi0.out hz0 hz1 hz2 rfl (by decide) v3 S.L.length xs (by rfl) hv3c ⟨x4.heap.size, 0, none⟩ 1 1 [strV (fillUp s)] (by rfl) (by rfl) (World.news_of_block (cs := #[strV (fillUp s)]) (t := 9) (fr := (0, 0)) hN4) (by intro u hu; simp at hu; subst hu; rfl) (by decide) hln1 hb161 (Nat.le_trans hg4 K4b.size) _ rfl ?_
    intro gg5 cap5 x5 hv5 hgr5 hat5 hlt5
    have K5 : Kp [] W0 x5 := K4b.grown hgr5 (fun g hg => .inr (hn3 g hg).1)
    have hn5 : W0.heap.size ≤ gg5 := by
      rcases hat5 with h | h
      · exact (hn3 _ h).1
      · exact Nat.le_trans K4b.size (Nat.le_of_eq h.symm)
    have kg5 : Kp v3.ownBlock.toList x4b x5 := (Kp.refl _ x4b).grown hgr5 (fun k hk => .inl (by simp [hk]))
    have HV2e := Lib.hid (kg5.owns HV2d.out (fun g hg hm => by
      have e1 : gg2 = g := by simpa [Value.ownBlock] using hg
      exact (hn3 g (by simpa using hm)).2 e1.symm))
    have HV5 := Lib.hid hv5
    clear hv5 hgr5 hat5 hlt5 HV2d kg5 hv3c
    refine hK _ _ (fun _ => rfs_of K5 hlb C1 C2 C3) ?_
    clear hK K
    try simp only [Act.put, List.setIfInBounds_toArray, List.set_cons_zero, List.set_cons_succ]
    have e1 : x5.cell? ⟨b, 1, none⟩ = some av := (rfs_of K5 hlb C1 C2 C3).1
    have e2 : x5.cell? ⟨b, 2, none⟩ = some bv := (rfs_of K5 hlb C1 C2 C3).2.1
    have e3 : x5.cell? ⟨b, 3, none⟩ = some (.int .i64 (S.writes : Int)) := (rfs_of K5 hlb C1 C2 C3).2.2
    have g1 : x5.frozen? ⟨b, 1, none⟩ = false := (K5.frozen0 hlb).trans F1
    have g2 : x5.frozen? ⟨b, 2, none⟩ = false := (K5.frozen0 hlb).trans F2
    have g3 : x5.frozen? ⟨b, 3, none⟩ = false := (K5.frozen0 hlb).trans F3
    refine wpAnyM_takeY (i := 25) (v := ?v25) rfl (by kernel_rfl) (by kernel_rfl) (by kernel_rfl) (fun _ _ _ h => h) (by decide) (Or.inl ⟨by rfl, ?hy25⟩) (fun _ => rfs_of K5 hlb C1 C2 C3) ?rest25
    case hy25 => (intro w; go_simp; first | done | with_reducible rfl)
    try simp only [List.getElem_toArray, List.getElem_cons_succ, List.getElem_cons_zero, Act.put, List.setIfInBounds_toArray, List.set_cons_zero, List.set_cons_succ]
    refine wpAnyM_takeY (i := 26) (v := ?v26) rfl (by kernel_rfl) (by kernel_rfl) (by kernel_rfl) (fun _ _ _ h => h) (by decide) (Or.inl ⟨by rfl, ?hy26⟩) (fun _ => rfs_of K5 hlb C1 C2 C3) ?rest26
    case hy26 => (intro w; go_simp; first | done | with_reducible rfl)
    try simp only [List.getElem_toArray, List.getElem_cons_succ, List.getElem_cons_zero, Act.put, List.setIfInBounds_toArray, List.set_cons_zero, List.set_cons_succ]
    refine wpAnyM_one (i := 27) (by kernel_rfl) rfl (fun K hK => ?_)
    try simp only [List.getElem_toArray, List.getElem_cons_succ, List.getElem_cons_zero]
    go_simp
    refine hK _ _ (fun h => absurd h (by decide)) ?_
    clear hK K
    try simp only [List.getElem_toArray, List.getElem_cons_succ, List.getElem_cons_zero, Act.put, List.setIfInBounds_toArray, List.set_cons_zero, List.set_cons_succ]
    refine wpAnyM_takeY (i := 28) (v := ?v27) rfl (by kernel_rfl) (by kernel_rfl) (by kernel_rfl) (fun _ _ _ h => h) (by decide) (Or.inl ⟨by rfl, ?hy27⟩) (fun h => absurd h (by decide)) ?rest27
    case hy27 => (intro w; go_simp; first | done | with_reducible rfl)
    try simp only [List.getElem_toArray, List.getElem_cons_succ, List.getElem_cons_zero, Act.put, List.setIfInBounds_toArray, List.set_cons_zero, List.set_cons_succ]
    refine wpAnyM_takeY (i := 29) (v := ?v28) rfl (by kernel_rfl) (by kernel_rfl) (by kernel_rfl) (fun _ _ _ h => h) (by decide) (Or.inl ⟨by rfl, ?hy28⟩) (fun h => absurd h (by decide)) ?rest28
    case hy28 => (intro w; go_simp; first | done | with_reducible rfl)
    try simp only [List.getElem_toArray, List.getElem_cons_succ, List.getElem_cons_zero, Act.put, List.setIfInBounds_toArray, List.set_cons_zero, List.set_cons_succ]
    refine wpAnyM_one (i := 30) (by kernel_rfl) rfl (fun K hK => ?_)
    try simp only [List.getElem_toArray, List.getElem_cons_succ, List.getElem_cons_zero]
    go_simp
    refine hK _ _ (fun h => absurd h (by decide)) ?_
    clear hK K
    try simp only [List.getElem_toArray, List.getElem_cons_succ, List.getElem_cons_zero, Act.put, List.setIfInBounds_toArray, List.set_cons_zero, List.set_cons_succ]
    refine wpAnyM_takeY (i := 31) (v := ?v29) rfl (by kernel_rfl) (by kernel_rfl) (by kernel_rfl) (fun _ _ _ h => h) (by decide) (Or.inl ⟨by rfl, ?hy29⟩) (fun h => absurd h (by decide)) ?rest29
    case hy29 => (intro w; go_simp; first | done | with_reducible rfl)
    try simp only [List.getElem_toArray, List.getElem_cons_succ, List.getElem_cons_zero, Act.put, List.setIfInBounds_toArray, List.set_cons_zero, List.set_cons_succ]
    refine wpAnyM_takeY (i := 32) (v := ?v30) rfl (by kernel_rfl) (by kernel_rfl) (by kernel_rfl) (fun _ _ _ h => h) (by decide) (Or.inl ⟨by rfl, ?hy30⟩) (fun h => absurd h (by decide)) ?rest30
    case hy30 => (intro w; go_simp; first | done | with_reducible rfl)
    try simp only [List.getElem_toArray, List.getElem_cons_succ, List.getElem_cons_zero, Act.put, List.setIfInBounds_toArray, List.set_cons_zero, List.set_cons_succ]
    refine wpAnyM_one (i := 33) (by kernel_rfl) rfl (fun K hK => ?_)
    try simp only [List.getElem_toArray, List.getElem_cons_succ, List.getElem_cons_zero]
    go_simp
    refine hK _ _ (fun h => absurd h (by decide)) ?_
    clear hK K
    try simp only [List.getElem_toArray, List.getElem_cons_succ, List.getElem_cons_zero, Act.put, List.setIfInBounds_toArray, List.set_cons_zero, List.set_cons_succ]
    refine wpAnyM_done (by kernel_rfl) ?_ _
    go_wp2_with fail
    go_ret
    refine ⟨rfl, ?_⟩
    rw [HWR.out]
    exact RfThen.mk (S2 := S.write k (fillUp s)) HR.out HK0.out K5 k hk (fillUp s) (fillUp_length s hs) hn2 hn5 (by rw [← Hxi.out]; exact HV2e.out) (by rw [← Hxs.out]; exact HV5.out) rfl rfl rfl rfl rfl rfl (fun _ => by show (if S.cut then S.left - 1 else S.left) = m; rw [if_pos hcut, HMM.out]; omega)
end Go.Proofs.YtggnljfcdohkaaaGreatDoor
