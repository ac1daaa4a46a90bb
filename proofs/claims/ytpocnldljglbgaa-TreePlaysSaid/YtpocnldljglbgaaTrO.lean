/- Contract of the law's model.done. -/
import Derived.Test.YtpocnldljglbgaaTrN
import Derived.Test.YtpocnldljglbgaaTrK
import Derived.Test.YtpocnldljglbgaaOr2
import Derived.Deep.Cut
import Derived.Deep.AppendLies
import Derived.Deep.CutRange
namespace Go.Proofs.Ytpocnldljglbgaa
open Go.RowKit Tr

theorem dn_ret {P : Ending → World → Prop} {w : World} {c : Act} {X : Nat} {kv nv : Value} (c0 : w.cell? ⟨X, 0, none⟩ = some kv) (c1 : w.cell? ⟨X, 1, none⟩ = some nv) (hk : ∃ a n c, kv = .slice a n c) (hn : ∃ a n c, nv = .slice a n c) (h4 : c.tmps.getD 4 undef = .pointer (some ⟨X, 0, none⟩)) (hd : c.defers = []) (hP : P (.returned (.agg #[kv, nv])) w) :
    bodyPost Try.prog Try.f10 P .ret c w := by
  obtain ⟨a1, n1, d1, rfl⟩ := hk
  obtain ⟨a2, n2, d2, rfl⟩ := hn
  refine bodyPost_ret (v := .agg #[_, _]) ?_ hd hP
  simp [results, Try.results10, go_sem] at *
  simp [h4, go_sem, c0, c1]
  done
/-- A model that lies there. -/
structure ModAt (w : World) (kv nv : Value) (L : List En) : Prop where
  ex : ∃ a b c d, kv = .slice a L.length c ∧ nv = .slice b L.length d ∧ StrsAt w w.heap.size a L.length (keyAt L) ∧ NumsAt w b L.length (numAt L) ∧ (∀ x : Addr, a = some x → x.off = 0) ∧ ∀ x : Addr, b = some x → x.off = 0
theorem ModAt.kept {w w2 : World} {kv nv : Value} {L : List En} (h : ModAt w kv nv L) (K : Kp [] w w2) : ModAt w2 kv nv L := by
  obtain ⟨a, b, c, d, h1, h2, h3, h4, h5⟩ := h.ex
  exact ⟨a, b, c, d, h1, h2, h3.kept K, h4.kept K, h5⟩
def modO (kv nv : Value) : Obj := .cells #[kv, nv] 30
def stepO (k : ByteArray) (n : Int) (del : Bool) : Obj := .cells #[.string k, .int .i64 n, .bool del] 33
/-- What done's loop keeps, and what it has built. -/
structure DnSt (n0 : Nat) (w1 x : World) (mk mn : Value) (k : ByteArray) (n : Int) (del : Bool) (kv nv : Value) (out : List En) : Prop where
  dn : Dn (n0 + 3) w1 x kv nv out
  m0 : x.cell? ⟨n0, 0, none⟩ = some mk
  m1 : x.cell? ⟨n0, 1, none⟩ = some mn
  s0 : x.cell? ⟨n0 + 1, 0, none⟩ = some (.string k)
  s1 : x.cell? ⟨n0 + 1, 1, none⟩ = some (.int .i64 n)
  s2 : x.cell? ⟨n0 + 1, 2, none⟩ = some (.bool del)
theorem DnSt.kp {n0 : Nat} {w1 x y : World} {mk mn : Value} {k : ByteArray} {n : Int} {del : Bool} {kv nv : Value} {out : List En} (h : DnSt n0 w1 x mk mn k n del kv nv out) (K : Kp [] x y) : DnSt n0 w1 y mk mn k n del kv nv out := by
  have hT : n0 + 3 < x.heap.size := h.dn.rs.hB
  exact ⟨h.dn.kp K, (K.cell0 (by omega)).trans h.m0, (K.cell0 (by omega)).trans h.m1, (K.cell0 (by omega)).trans h.s0, (K.cell0 (by omega)).trans h.s1, (K.cell0 (by omega)).trans h.s2⟩
theorem DnSt.stored {n0 : Nat} {w1 x y : World} {mk mn : Value} {k : ByteArray} {n : Int} {del : Bool} {kv nv kv2 nv2 : Value} {out : List En} (h : DnSt n0 w1 x mk mn k n del kv nv out) (K : Below (n0 + 4) x y) {e : En} (r : RS (n0 + 4) y kv2 nv2 (out.map (·.1) ++ [e.1]) (out.map (·.2) ++ [e.2])) :
    DnSt n0 w1 ((y.setCell ⟨n0 + 3, 0, none⟩ kv2).setCell ⟨n0 + 3, 1, none⟩ nv2) mk mn k n del kv2 nv2 (out ++ [e]) := by
  have c : ∀ j o, j < n0 + 3 → ((y.setCell ⟨n0 + 3, 0, none⟩ kv2).setCell ⟨n0 + 3, 1, none⟩ nv2).cell? ⟨j, o, none⟩ = x.cell? ⟨j, o, none⟩ := fun j o hj => by
    have k1 : Kp [n0 + 3] y ((y.setCell ⟨n0 + 3, 0, none⟩ kv2).setCell ⟨n0 + 3, 1, none⟩ nv2) := ((Kp.refl [n0 + 3] y).setCell (.inl (by simp)) _).setCell (.inl (by simp)) _
    have := r.hB
    rw [k1.cell (p := ⟨j, o, none⟩) (by show j < _; omega) (by simp; omega)]
    exact World.cell?_of_block (w := x) (K.block j (by omega))
  exact ⟨h.dn.stored K r, (c _ _ (by omega)).trans h.m0, (c _ _ (by omega)).trans h.m1, (c _ _ (by omega)).trans h.s0, (c _ _ (by omega)).trans h.s1, (c _ _ (by omega)).trans h.s2⟩
theorem intInfo : (Try.prog.info? 3).map (fun i => (i.zero, i.size, i.bytes)) = some (some (.int .i64 0), 1, 8) := by kernel_rfl
/-- What the loads of a statement read: the variable x, the step; or x, the model and an element of it. -/
def Sg (n0 : Nat) (kv nv : Value) (k : ByteArray) (n : Int) (x : World) : Prop := x.cell? ⟨n0 + 3, 0, none⟩ = some kv ∧ x.cell? ⟨n0 + 3, 1, none⟩ = some nv ∧ x.cell? ⟨n0 + 1, 0, none⟩ = some (.string k) ∧ x.cell? ⟨n0 + 1, 1, none⟩ = some (.int .i64 n)
theorem dS {n0 : Nat} {w1 x y : World} {mk mn : Value} {k : ByteArray} {n : Int} {del : Bool} {kv nv : Value} {out : List En} (h : DnSt n0 w1 x mk mn k n del kv nv out) (K : Below (n0 + 4) x y) : Sg n0 kv nv k n y := by
  have c : ∀ j o, j < n0 + 4 → y.cell? ⟨j, o, none⟩ = x.cell? ⟨j, o, none⟩ := fun j o hj => World.cell?_of_block (w := x) (K.block j hj)
  exact ⟨(c _ _ (by omega)).trans h.dn.t0, (c _ _ (by omega)).trans h.dn.t1, (c _ _ (by omega)).trans h.s0, (c _ _ (by omega)).trans h.s1⟩
def Sm (n0 : Nat) (kv nv mk mn : Value) (g i g2 i2 : Nat) (ek : ByteArray) (en : Int) (x : World) : Prop := x.cell? ⟨n0 + 3, 0, none⟩ = some kv ∧ x.cell? ⟨n0 + 3, 1, none⟩ = some nv ∧ x.cell? ⟨n0, 0, none⟩ = some mk ∧ x.cell? ⟨n0, 1, none⟩ = some mn ∧ x.cell? ⟨g, i, none⟩ = some (.string ek) ∧ x.cell? ⟨g2, i2, none⟩ = some (.int .i64 en)
theorem dSm {n0 : Nat} {w1 x y : World} {mk mn : Value} {k : ByteArray} {n : Int} {del : Bool} {kv nv : Value} {out : List En} {g i g2 i2 : Nat} {ek : ByteArray} {en : Int} (h : DnSt n0 w1 x mk mn k n del kv nv out)
    (ca : ∀ x, Below (n0 + 3) w1 x → x.cell? ⟨g, i, none⟩ = some (.string ek) ∧ x.cell? ⟨g2, i2, none⟩ = some (.int .i64 en)) (K : Below (n0 + 4) x y) : Sm n0 kv nv mk mn g i g2 i2 ek en y := by
  have c : ∀ j o, j < n0 + 4 → y.cell? ⟨j, o, none⟩ = x.cell? ⟨j, o, none⟩ := fun j o hj => World.cell?_of_block (w := x) (K.block j hj)
  have kb : Below (n0 + 3) w1 y := h.dn.kb.trans ⟨K.os, K.tape, K.output, K.size, fun j hj => K.block j (by omega)⟩
  exact ⟨(c _ _ (by omega)).trans h.dn.t0, (c _ _ (by omega)).trans h.dn.t1, (c _ _ (by omega)).trans h.m0, (c _ _ (by omega)).trans h.m1, ca y kb⟩
theorem own_off {w : World} {B n : Nat} {e : TypeId} {v : Value} {xs : List Value} {x : Addr} {m c : Nat} (h : w.ownsRow B e 1 v n xs) (hv : v = .slice (some x) m c) : x.off = 0 := by
  rcases h.2 with ⟨h1, _⟩ | ⟨g, cap, cur, h1, _⟩
  · rw [h1] at hv; cases hv
  · rw [h1] at hv
    injection hv with hv
    injection hv with hv
    rw [← hv]
theorem dn_start (w : World) (mk mn : Value) (k : ByteArray) (n : Int) (del : Bool) (y : World) (hy : y = (((w.alloc (modO mk mn)).alloc (stepO k n del)).alloc (modO (.slice none 0 0) (.slice none 0 0))).alloc (modO (.slice none 0 0) (.slice none 0 0))) :
    Kp [] w y ∧ DnSt w.heap.size y y mk mn k n del (.slice none 0 0) (.slice none 0 0) [] ∧ y.cell? ⟨w.heap.size + 2, 0, none⟩ = some (.slice none 0 0) ∧ y.cell? ⟨w.heap.size + 2, 1, none⟩ = some (.slice none 0 0) ∧ ∀ o, y.frozen? ⟨w.heap.size + 2, o, none⟩ = false := by
  obtain ⟨y1, h1⟩ : ∃ y1, y1 = w.alloc (modO mk mn) := ⟨_, rfl⟩
  obtain ⟨y2, h2⟩ : ∃ y2, y2 = y1.alloc (stepO k n del) := ⟨_, rfl⟩
  obtain ⟨y3, h3⟩ : ∃ y3, y3 = y2.alloc (modO (.slice none 0 0) (.slice none 0 0)) := ⟨_, rfl⟩
  rw [← h1, ← h2, ← h3] at hy
  have z1 : y1.heap.size = w.heap.size + 1 := by rw [h1]; simp
  have z2 : y2.heap.size = w.heap.size + 2 := by rw [h2]; simp [z1]
  have z3 : y3.heap.size = w.heap.size + 3 := by rw [h3]; simp [z2]
  have z4 : y.heap.size = w.heap.size + 4 := by rw [hy]; simp [z3]
  have k1 : Kp [] w y1 := by rw [h1]; exact (Kp.refl [] w).alloc _
  have k2 : Kp [] y1 y2 := by rw [h2]; exact (Kp.refl [] y1).alloc _
  have k3 : Kp [] y2 y3 := by rw [h3]; exact (Kp.refl [] y2).alloc _
  have k4 : Kp [] y3 y := by rw [hy]; exact (Kp.refl [] y3).alloc _
  have c1 : ∀ o, y.cell? ⟨w.heap.size, o, none⟩ = y1.cell? ⟨w.heap.size, o, none⟩ := fun o => (k2.trans (k3.trans k4)).cell0 (by omega)
  have c2 : ∀ o, y.cell? ⟨w.heap.size + 1, o, none⟩ = y2.cell? ⟨w.heap.size + 1, o, none⟩ := fun o => (k3.trans k4).cell0 (by omega)
  have c3 : ∀ o, y.cell? ⟨w.heap.size + 2, o, none⟩ = y3.cell? ⟨w.heap.size + 2, o, none⟩ := fun o => k4.cell0 (by omega)
  have f3 : ∀ o, y.frozen? ⟨w.heap.size + 2, o, none⟩ = y3.frozen? ⟨w.heap.size + 2, o, none⟩ := fun o => k4.frozen0 (by omega)
  have e1 : ∀ o, y1.cell? ⟨w.heap.size, o, none⟩ = #[mk, mn][o]? := fun o => by rw [h1]; exact World.cell?_alloc_new ..
  have e2 : ∀ o, y2.cell? ⟨w.heap.size + 1, o, none⟩ = #[Value.string k, .int .i64 n, .bool del][o]? := fun o => by rw [h2, ← z1]; exact World.cell?_alloc_new ..
  have e3 : ∀ o, y3.cell? ⟨w.heap.size + 2, o, none⟩ = #[Value.slice none 0 0, .slice none 0 0][o]? := fun o => by rw [h3, ← z2]; exact World.cell?_alloc_new ..
  have e4 : ∀ o, y.cell? ⟨w.heap.size + 3, o, none⟩ = #[Value.slice none 0 0, .slice none 0 0][o]? := fun o => by rw [hy, ← z3]; exact World.cell?_alloc_new ..
  refine ⟨k1.trans (k2.trans (k3.trans k4)), ⟨⟨Below.refl _ _, e4 0, e4 1, fun o => ?_, ⟨by omega, World.ownsRow_nil _ _ _ _, World.ownsRow_nil _ _ _ _, fun j h => by cases h⟩⟩, (c1 0).trans (e1 0), (c1 1).trans (e1 1), (c2 0).trans (e2 0), (c2 1).trans (e2 1), (c2 2).trans (e2 2)⟩, (c3 0).trans (e3 0), (c3 1).trans (e3 1), fun o => ?_⟩
  · rw [hy, ← z3]; simp [modO]
  · rw [f3, h3, ← z2]; simp [modO]
theorem done_all {k : ByteArray} {n : Int} {del ff : Bool} {L out : List En} {z : Nat} (h : (ff, out) = (L.take z).foldl (stp k n) (del, [])) (hz : z = L.length) (hr : Rise L) : fin k n (ff, out) = doneL k n del L := by
  subst hz
  rw [List.take_length] at h
  rw [h, done_fin k n del hr]
theorem done_end {w y x : World} {n0 : Nat} {mk mn kv nv u0 u1 : Value} {k : ByteArray} {n : Int} {del : Bool} {L outF : List En} (K : Kp [] w y) (hn0 : n0 = w.heap.size) (D : DnSt n0 y x mk mn k n del kv nv outF) (hL : outF = doneL k n del L)
    (e0 : x.cell? ⟨n0 + 2, 0, none⟩ = some u0) (e1 : x.cell? ⟨n0 + 2, 1, none⟩ = some u1) {c : Act} (h4 : c.tmps.getD 4 undef = .pointer (some ⟨n0 + 2, 0, none⟩)) (hd : c.defers = []) :
    bodyPost Try.prog Try.f10 (fun e w2 => ∃ kv nv, e = .returned (.agg #[kv, nv]) ∧ Kp [] w w2 ∧ ModAt w2 kv nv (doneL k n del L)) .ret c ((x.setCell ⟨n0 + 2, 0, none⟩ kv).setCell ⟨n0 + 2, 1, none⟩ nv) := by
  have kk : Kp [n0 + 2] x ((x.setCell ⟨n0 + 2, 0, none⟩ kv).setCell ⟨n0 + 2, 1, none⟩ nv) := ((Kp.refl [n0 + 2] x).setCell (.inl (by simp)) _).setCell (.inl (by simp)) _
  have o1 := kk.owns D.dn.rs.ok (fun g hg hm => by have := (D.dn.rs.ltS g hg).1; have := List.mem_singleton.1 hm; omega)
  have o2 := kk.owns D.dn.rs.on (fun g hg hm => by have := (D.dn.rs.ltI g hg).1; have := List.mem_singleton.1 hm; omega)
  obtain ⟨b1, c1, h1, s1⟩ := own_at o1
  obtain ⟨b2, c2, h2, s2⟩ := ownInts_at o2
  have f0 := cell_eq x (n0 + 2) 0 kv _ e0
  have f1 : (x.setCell ⟨n0 + 2, 0, none⟩ kv).cell? ⟨n0 + 2, 1, none⟩ = some u1 := (cell_ne x (n0 + 2) 0 1 _ (by decide)).trans e1
  have hb : Below n0 w ((x.setCell ⟨n0 + 2, 0, none⟩ kv).setCell ⟨n0 + 2, 1, none⟩ nv) := by
    have hx : n0 + 4 ≤ x.heap.size := D.dn.rs.hB
    refine ((K.below (Nat.le_of_eq hn0) (fun _ h => by cases h)).trans ⟨D.dn.kb.os, D.dn.kb.tape, D.dn.kb.output, D.dn.kb.size, fun j hj => D.dn.kb.block j (by omega)⟩).trans (kk.below (by omega) (fun j hj => by rw [List.mem_singleton.1 hj]; omega))
  refine dn_ret ((cell_ne _ (n0 + 2) 1 0 _ (by decide)).trans f0) (cell_eq _ (n0 + 2) 1 nv _ f1) ⟨_, _, _, h1⟩ ⟨_, _, _, h2⟩ h4 hd ⟨kv, nv, rfl, ?_, ?_⟩
  · have hb2 : Below w.heap.size w ((x.setCell ⟨n0 + 2, 0, none⟩ kv).setCell ⟨n0 + 2, 1, none⟩ nv) := by rw [← hn0]; exact hb
    exact Kp.of_below hb2 []
  · rw [← hL]
    rw [List.length_map] at h1 s1 h2 s2
    exact ⟨b1, b2, c1, c2, h1, h2, s1, s2, fun x hx => own_off o1 (by rw [h1, hx]), fun x hx => own_off o2 (by rw [h2, hx])⟩
theorem fold_take {α β : Type} (g : β → α → β) (s : β) {L : List α} {q : Nat} (h : q < L.length) : (L.take (q + 1)).foldl g s = g ((L.take q).foldl g s) L[q] := by
  rw [List.take_add_one, List.getElem?_eq_getElem h, List.foldl_append]
  rfl
set_option maxHeartbeats 6400000 in
set_option maxRecDepth 20000 in
theorem done_any (a b : Option Addr) (c d : Nat) (L : List En) (hr : Rise L) (hL : L.length ≤ 1000) (k : ByteArray) (n : Int) (del : Bool) (w : World) (hS : StrsAt w w.heap.size a L.length (keyAt L)) (hN : NumsAt w b L.length (numAt L)) :
    Calls Try.prog 10 #[.agg #[.slice a L.length c, .slice b L.length d], .agg #[.string k, .int .i64 n, .bool del]] w fun e w2 => ∃ kv nv, e = .returned (.agg #[kv, nv]) ∧ Kp [] w w2 ∧ ModAt w2 kv nv (doneL k n del L) := by
  have HS := Lib.hid hS
  have HN := Lib.hid hN
  have HR := Lib.hid hr
  clear hS hN hr
  obtain ⟨z, hz⟩ : ∃ z, z = L.length := ⟨_, rfl⟩
  have HZ := Lib.hid hz
  rw [← hz] at HS HN hL ⊢
  clear hz
  obtain ⟨n0, hn0⟩ : ∃ n0, n0 = w.heap.size := ⟨_, rfl⟩
  go_enter Try.func10, Try.ntmps10
  go_upto_region 2 with fail
  have e1 : w.heap.size + 1 + 1 = w.heap.size + 2 := rfl
  have e2 : w.heap.size + 2 + 1 = w.heap.size + 3 := rfl
  rw [e1, e2]
  clear e1 e2
  rw [← hn0]
  obtain ⟨y, hy⟩ : ∃ y, y = (((w.alloc (.cells #[.slice a z c, .slice b z d] 30)).alloc (.cells #[.string k, .int .i64 n, .bool del] 33)).alloc (.cells #[.slice none 0 0, .slice none 0 0] 30)).alloc (.cells #[.slice none 0 0, .slice none 0 0] 30) := ⟨_, rfl⟩
  have D0 : Hid (Kp [] w y ∧ DnSt n0 y y (.slice a z c) (.slice b z d) k n del (.slice none 0 0) (.slice none 0 0) [] ∧ y.cell? ⟨n0 + 2, 0, none⟩ = some (.slice none 0 0) ∧ y.cell? ⟨n0 + 2, 1, none⟩ = some (.slice none 0 0) ∧ ∀ o, y.frozen? ⟨n0 + 2, o, none⟩ = false) := by rw [hn0]; exact dn_start w _ _ k n del y hy
  rw [← hy]
  have HN0 := Lib.hid hn0
  clear hy hn0
  have s2 := D0.out.2.1.s2
  go_wp2_with fail
  clear s2
  go_loopw [6, 7] (fun f i wr => ∃ (q : Nat) (ff : Bool) (kv nv : Value) (out : List En), q ≤ z ∧ i = .int .i64 (q : Int) ∧ f = .bool ff ∧ Hid ((ff, out) = (L.take q).foldl (stp k n) (del, []) ∧ out.length ≤ 2 * q) ∧ Hid (DnSt n0 y wr (.slice a z c) (.slice b z d) k n del kv nv out)) (fun _ i _ => z - (intOf i).toNat)
  case atStart => exact ⟨0, del, _, _, [], Nat.zero_le _, rfl, rfl, ⟨rfl, Nat.le_refl _⟩, D0.out.2.1⟩
  case round =>
    obtain ⟨q, ff, kv, nv, out, hq, rfl, rfl, HF, HD⟩ := hrel
    have m0 := HD.out.m0
    by_cases hlt : q < z
    · have l1 : decide ((q : Int) < (z : Int)) = true := by simpa using hlt
      have l1' : decide (q < z) = true := by simpa using hlt
      have Hlt := Lib.hid hlt
      obtain ⟨g, o, ha, hg, hc⟩ := HS.out q hlt
      obtain ⟨g2, o2, hb, hg2, hc2⟩ := HN.out q hlt
      subst ha
      subst hb
      have hqL : q < L.length := by rw [← HZ.out]; exact hlt
      obtain ⟨e, he⟩ : ∃ e, e = L[q] := ⟨_, rfl⟩
      rw [keyAt_get hqL, ← he] at hc
      rw [numAt_get hqL, ← he] at hc2
      obtain ⟨ek, en⟩ := e
      have HFq : Hid ((L.take (q + 1)).foldl (stp k n) (del, []) = stp k n (ff, out) (ek, en)) := by show _ = _; rw [fold_take _ _ hqL, ← HF.out.1, ← he]
      have hn0 := HN0.out
      have CA : Hid (∀ x, Below (n0 + 3) y x → x.cell? ⟨g, o + q, none⟩ = some (.string ek) ∧ x.cell? ⟨g2, o2 + q, none⟩ = some (.int .i64 en)) := fun x K =>
        ⟨(World.cell?_of_block (w := y) (K.block g (by omega))).trans ((D0.out.1.cell0 hg).trans hc), (World.cell?_of_block (w := y) (K.block g2 (by omega))).trans ((D0.out.1.cell0 hg2).trans hc2)⟩
      have c1 := (CA.out wr HD.out.dn.kb).1
      have s0 := HD.out.s0
      have hgt : Op.bytesLess ek.toList k.toList = decide (klt ek k) := less_klt ek k
      obtain ⟨lt, hlt2⟩ : ∃ lt, lt = decide (klt ek k) := ⟨_, rfl⟩
      rw [← hlt2] at hgt
      have HLT := Lib.hid hlt2
      clear hn0 hlt2 hc hc2 hg hg2 he hqL
      go_upto_region 6 with fail
      go_cut [29] from 11 to 71 (fun s29 wx => s29 = .bool (!ff && !lt) ∧ Hid (Kp [] wr wx))
      case first =>
        cases ff
        all_goals
          cases lt
          all_goals
            go_quiet (fail)
            go_wp2_with fail
            go_meet
            case rel => exact ⟨rfl, (Kp.refl [] wr).drewN _⟩
      case rest =>
        obtain ⟨rfl, HK⟩ := hcut
        have HD2 : Hid (DnSt n0 y wc (.slice (some ⟨g, o, none⟩) z c) (.slice (some ⟨g2, o2, none⟩) z d) k n del kv nv out) := HD.out.kp HK.out
        obtain ⟨ins, hins⟩ : ∃ ins, ins = (!ff && !lt) := ⟨_, rfl⟩
        rw [← hins]
        have HI := Lib.hid hins
        clear hins HD HK hgt c1 s0 m0
        go_upto_if 29 with fail
        go_cut [6] from 11 to 71 (fun s6 wx => s6 = .bool (ff || ins) ∧ Hid (∃ kv2 nv2, DnSt n0 y wx (.slice (some ⟨g, o, none⟩) z c) (.slice (some ⟨g2, o2, none⟩) z d) k n del kv2 nv2 (if ins then out ++ [(k, n)] else out)))
        case first =>
          cases ins
          · go_wp2_with fail
            go_meet
            case rel => exact ⟨by simp, _, _, HD2.out⟩
          · go_wp2_with fail
            obtain ⟨ks, hks⟩ : ∃ ks, ks = out.map (·.1) := ⟨_, rfl⟩
            obtain ⟨ns, hns⟩ : ∃ ns, ns = out.map (·.2) := ⟨_, rfl⟩
            have hkl : ks.length = out.length := by rw [hks, List.length_map]
            have hnl : ns.length = out.length := by rw [hns, List.length_map]
            have hol : out.length ≤ 2001 := by have := HF.out.2; have := Hlt.out; omega
            have hn1 : ks.length + 1 ≤ maxLen := by unfold maxLen; omega
            have hn2 : (ks.length + 1) * 16 ≤ 140737488355328 := by omega
            have hm1 : ns.length + 1 ≤ maxLen := by unfold maxLen; omega
            have hm2 : (ns.length + 1) * 8 ≤ 140737488355328 := by omega
            have HKS := Lib.hid hks
            have HNS := Lib.hid hns
            obtain ⟨i0, hi0, hz0, hz1, hz2⟩ := info_parts strInfo
            obtain ⟨j0, hj0, jz0, jz1, jz2⟩ := info_parts intInfo
            have Hi0 := Lib.hid hi0
            have Hj0 := Lib.hid hj0
            clear hks hns hkl hnl hol hi0 hj0
            refine wp_region_M (Sg n0 kv nv k n) 13 (by kernel_rfl) ?_
            generalize hX : World.drew _ = x0
            have kx0 : Kp [] wc x0 := by rw [← hX]; first | exact (Kp.refl [] wc).drew | exact ((Kp.refl [] wc).drewN _).drew
            have D0x := Lib.hid (HD2.out.kp kx0)
            have SF : Hid (∀ X, Below (n0 + 4) x0 X → Sg n0 kv nv k n X) := fun X K => dS D0x.out K
            have FZ : Hid (∀ X, Below (n0 + 4) x0 X → ∀ o, X.frozen? ⟨n0 + 3, o, none⟩ = false) := fun X K o => (World.frozen?_of_block (w := x0) (K.block (n0 + 3) (by omega))).trans (D0x.out.dn.fz o)
            have RS0 : RS (n0 + 4) x0 kv nv ks ns := by rw [HKS.out, HNS.out]; exact D0x.out.dn.rs
            have KB0 := Below.refl (n0 + 4) x0
            have hS0 := SF.out x0 KB0
            clear hX
            refine wpAnyM_takeY (i := 0) (v := ?v7001) rfl (by kernel_rfl) (by kernel_rfl) (by kernel_rfl) (fun _ _ _ h => h) (by decide) (Or.inl ⟨by rfl, ?hy7001⟩) (fun _ => hS0) ?rest7001
            case hy7001 => (intro w; go_simp; first | done | with_reducible rfl)
            try simp only [List.getElem_toArray, List.getElem_cons_succ, List.getElem_cons_zero, Act.put, List.setIfInBounds_toArray, List.set_cons_zero, List.set_cons_succ]
            refine wpAnyM_takeY (i := 2) (v := ?v7002) rfl (by kernel_rfl) (by kernel_rfl) (by kernel_rfl) (fun _ _ _ h => h) (by decide) (Or.inl ⟨by rfl, ?hy7002⟩) (fun _ => hS0) ?rest7002
            case hy7002 => (intro w; go_simp; first | done | with_reducible rfl)
            try simp only [List.getElem_toArray, List.getElem_cons_succ, List.getElem_cons_zero, Act.put, List.setIfInBounds_toArray, List.set_cons_zero, List.set_cons_succ]
            refine wpAnyM_takeY (i := 6) (v := ?v7003) rfl (by kernel_rfl) (by kernel_rfl) (by kernel_rfl) (fun _ _ _ h => h) (by decide) (Or.inl ⟨by rfl, ?hy7003⟩) (fun _ => hS0) ?rest7003
            case hy7003 => (intro w; go_simp; first | done | with_reducible rfl)
            try simp only [List.getElem_toArray, List.getElem_cons_succ, List.getElem_cons_zero, Act.put, List.setIfInBounds_toArray, List.set_cons_zero, List.set_cons_succ]
            refine wpAnyM_takeY (i := 8) (v := ?v7004) rfl (by kernel_rfl) (by kernel_rfl) (by kernel_rfl) (fun _ _ _ h => h) (by decide) (Or.inl ⟨by rfl, ?hy7004⟩) (fun _ => hS0) ?rest7004
            case hy7004 => (intro w; go_simp; first | done | with_reducible rfl)
            try simp only [List.getElem_toArray, List.getElem_cons_succ, List.getElem_cons_zero, Act.put, List.setIfInBounds_toArray, List.set_cons_zero, List.set_cons_succ]
            refine wpAnyM_takeC (i := 1) (c := 1) (r := []) (v := ?v7005) rfl (by kernel_rfl) (by kernel_rfl) (by kernel_rfl) (fun _ _ _ h => h) (by decide) (by kernel_rfl) rfl (by kernel_rfl) (by kernel_rfl) (Or.inl ⟨by rfl, ?hy7005⟩) hS0 ?rest7005
            case hy7005 => (intro w hS; obtain ⟨s1, s2, s3, s4⟩ := hS; go_simp; first | done | with_reducible rfl)
            try simp only [List.getElem_toArray, List.getElem_cons_succ, List.getElem_cons_zero, Act.put, List.setIfInBounds_toArray, List.set_cons_zero, List.set_cons_succ]
            refine wpAnyM_takeC (i := 3) (c := 3) (r := []) (v := ?v7006) rfl (by kernel_rfl) (by kernel_rfl) (by kernel_rfl) (fun _ _ _ h => h) (by decide) (by kernel_rfl) rfl (by kernel_rfl) (by kernel_rfl) (Or.inl ⟨by rfl, ?hy7006⟩) hS0 ?rest7006
            case hy7006 => (intro w hS; obtain ⟨s1, s2, s3, s4⟩ := hS; go_simp; first | done | with_reducible rfl)
            try simp only [List.getElem_toArray, List.getElem_cons_succ, List.getElem_cons_zero, Act.put, List.setIfInBounds_toArray, List.set_cons_zero, List.set_cons_succ]
            refine wpAnyM_takeC (i := 7) (c := 7) (r := []) (v := ?v7007) rfl (by kernel_rfl) (by kernel_rfl) (by kernel_rfl) (fun _ _ _ h => h) (by decide) (by kernel_rfl) rfl (by kernel_rfl) (by kernel_rfl) (Or.inl ⟨by rfl, ?hy7007⟩) hS0 ?rest7007
            case hy7007 => (intro w hS; obtain ⟨s1, s2, s3, s4⟩ := hS; go_simp; first | done | with_reducible rfl)
            try simp only [List.getElem_toArray, List.getElem_cons_succ, List.getElem_cons_zero, Act.put, List.setIfInBounds_toArray, List.set_cons_zero, List.set_cons_succ]
            refine wpAnyM_takeC (i := 9) (c := 11) (r := [10, 9]) (v := ?v7008) rfl (by kernel_rfl) (by kernel_rfl) (by kernel_rfl) (fun _ _ _ h => h) (by decide) (by kernel_rfl) rfl (by kernel_rfl) (by kernel_rfl) (Or.inl ⟨by rfl, ?hy7008⟩) hS0 ?rest7008
            case hy7008 => (intro w hS; obtain ⟨s1, s2, s3, s4⟩ := hS; go_simp; first | done | with_reducible rfl)
            try simp only [List.getElem_toArray, List.getElem_cons_succ, List.getElem_cons_zero, Act.put, List.setIfInBounds_toArray, List.set_cons_zero, List.set_cons_succ]
            refine wpAnyM_two (i := 4) (j := 10) (by kernel_rfl) rfl rfl (fun K hK => ?_) (fun K hK => ?_)
            ·
              try simp only [List.getElem_toArray, List.getElem_cons_succ, List.getElem_cons_zero]
              go_simp
              generalize hX7009 : World.alloc _ _ = x7009
              have kx7009 : Kp [] x0 x7009 := by rw [← hX7009]; exact (Kp.refl [] x0).alloc _
              have RS7009 := RS0.kp kx7009
              have KB7009 := KB0.trans (kx7009.below RS0.hB (fun _ h => by cases h))
              have hcS7009 : x7009.heap[x0.heap.size]? = some (.cells #[.string k] 9) := by rw [← hX7009]; exact heap_alloc_new x0 _
              have lt7009 : x0.heap.size < x7009.heap.size := by rw [← hX7009]; simp
              clear hX7009
              refine hK _ _ (fun _ => (SF.out x7009 KB7009)) ?_
              clear hK K
              try simp only [List.getElem_toArray, List.getElem_cons_succ, List.getElem_cons_zero, Act.put, List.setIfInBounds_toArray, List.set_cons_zero, List.set_cons_succ]
              refine wpAnyM_two (i := 5) (j := 10) (by kernel_rfl) rfl rfl (fun K hK => ?_) (fun K hK => ?_)
              ·
                try simp only [List.getElem_toArray, List.getElem_cons_succ, List.getElem_cons_zero]
                refine Eq.mpr (if_pos rfl) ?_
                refine wp_append_lies _ _ _ _ (by rfl) (n0 + 4) 9 i0 _ 1 16 Try.underlying27 Hi0.out hz0 hz1 hz2 rfl (by decide) kv ks.length (ks.map Value.string) (by rfl) RS7009.ok ⟨x0.heap.size, 0, none⟩ 1 1 [.string k] (by rfl) (by rfl) (World.news_of_block (cs := #[.string k]) (t := 9) (fr := (0, 0)) hcS7009) (by intro u hu; simp at hu; subst hu; rfl) (by decide) hn1 hn2 RS7009.hB _ rfl ?_
                intro gg7010 cap7010 x7010 hv7010 hgr7010 hat7010 hlt7010
                have RS7010 := RS7009.growS hv7010 hgr7010 hat7010
                have KB7010 := KB7009.grown hgr7010 RS7009.hB (fun j hj => (RS7009.ltS j hj).1)
                clear hv7010 hgr7010 hat7010 hlt7010
                refine hK _ _ (fun _ => (SF.out x7010 KB7010)) ?_
                clear hK K
                try simp only [List.getElem_toArray, List.getElem_cons_succ, List.getElem_cons_zero, Act.put, List.setIfInBounds_toArray, List.set_cons_zero, List.set_cons_succ]
                refine wpAnyM_takeY (i := 12) (v := ?v7011) rfl (by kernel_rfl) (by kernel_rfl) (by kernel_rfl) (fun _ _ _ h => h) (by decide) (Or.inl ⟨by rfl, ?hy7011⟩) (fun _ => (SF.out x7010 KB7010)) ?rest7011
                case hy7011 => (intro w; go_simp; first | done | with_reducible rfl)
                try simp only [List.getElem_toArray, List.getElem_cons_succ, List.getElem_cons_zero, Act.put, List.setIfInBounds_toArray, List.set_cons_zero, List.set_cons_succ]
                refine wpAnyM_one (i := 10) (by kernel_rfl) rfl (fun K hK => ?_)
                try simp only [List.getElem_toArray, List.getElem_cons_succ, List.getElem_cons_zero]
                go_simp
                generalize hX7012 : World.alloc _ _ = x7012
                have kx7012 : Kp [] x7010 x7012 := by rw [← hX7012]; exact (Kp.refl [] x7010).alloc _
                have RS7012 := RS7010.kp kx7012
                have KB7012 := KB7010.trans (kx7012.below RS7010.hB (fun _ h => by cases h))
                have hcI7012 : x7012.heap[x7010.heap.size]? = some (.cells #[.int .i64 n] 3) := by rw [← hX7012]; exact heap_alloc_new x7010 _
                have lt7012 : x7010.heap.size < x7012.heap.size := by rw [← hX7012]; simp
                have ne7012 : (Value.slice (some ⟨gg7010, 0, none⟩) (ks.length + 1) cap7010).ownBlock = some x7010.heap.size → False := fun h => Nat.lt_irrefl _ (RS7010.ltS _ h).2
                clear hX7012
                refine hK _ _ (fun _ => (SF.out x7012 KB7012)) ?_
                clear hK K
                try simp only [List.getElem_toArray, List.getElem_cons_succ, List.getElem_cons_zero, Act.put, List.setIfInBounds_toArray, List.set_cons_zero, List.set_cons_succ]
                refine wpAnyM_one (i := 11) (by kernel_rfl) rfl (fun K hK => ?_)
                try simp only [List.getElem_toArray, List.getElem_cons_succ, List.getElem_cons_zero]
                refine Eq.mpr (if_pos rfl) ?_
                refine wp_append_lies _ _ _ _ (by rfl) (n0 + 4) 3 j0 _ 1 8 Try.underlying28 Hj0.out jz0 jz1 jz2 rfl (by decide) nv ns.length (ns.map intV) (by rfl) RS7012.on ⟨x7010.heap.size, 0, none⟩ 1 1 [.int .i64 n] (by rfl) (by rfl) (World.news_of_block (cs := #[.int .i64 n]) (t := 3) (fr := (0, 0)) hcI7012) (by intro u hu; simp at hu; subst hu; rfl) (by decide) hm1 hm2 RS7012.hB _ rfl ?_
                intro gg7013 cap7013 x7013 hv7013 hgr7013 hat7013 hlt7013
                have RS7013 := RS7012.growI hv7013 hgr7013 hat7013
                have KB7013 := KB7012.grown hgr7013 RS7012.hB (fun j hj => (RS7012.ltI j hj).1)
                clear hv7013 hgr7013 hat7013 hlt7013
                refine hK _ _ (fun _ => (SF.out x7013 KB7013)) ?_
                clear hK K
                try simp only [List.getElem_toArray, List.getElem_cons_succ, List.getElem_cons_zero, Act.put, List.setIfInBounds_toArray, List.set_cons_zero, List.set_cons_succ]
                refine wpAnyM_one (i := 13) (by kernel_rfl) rfl (fun K hK => ?_)
                try simp only [List.getElem_toArray, List.getElem_cons_succ, List.getElem_cons_zero]
                have e0 : x7013.cell? ⟨n0 + 3, 0, none⟩ = some kv := (SF.out x7013 KB7013).1
                have e1 : x7013.cell? ⟨n0 + 3, 1, none⟩ = some nv := (SF.out x7013 KB7013).2.1
                have g0 : x7013.frozen? ⟨n0 + 3, 0, none⟩ = false := FZ.out x7013 KB7013 0
                have g1 : x7013.frozen? ⟨n0 + 3, 1, none⟩ = false := FZ.out x7013 KB7013 1
                go_simp
                refine hK _ _ (fun h => absurd h (by decide)) ?_
                clear hK K
                try simp only [List.getElem_toArray, List.getElem_cons_succ, List.getElem_cons_zero, Act.put, List.setIfInBounds_toArray, List.set_cons_zero, List.set_cons_succ]
                refine wpAnyM_takeY (i := 14) (v := ?v7015) rfl (by kernel_rfl) (by kernel_rfl) (by kernel_rfl) (fun _ _ _ h => h) (by decide) (Or.inl ⟨by rfl, ?hy7015⟩) (fun h => absurd h (by decide)) ?rest7015
                case hy7015 => (intro w; go_simp; first | done | with_reducible rfl)
                try simp only [List.getElem_toArray, List.getElem_cons_succ, List.getElem_cons_zero, Act.put, List.setIfInBounds_toArray, List.set_cons_zero, List.set_cons_succ]
                refine wpAnyM_one (i := 15) (by kernel_rfl) rfl (fun K hK => ?_)
                try simp only [List.getElem_toArray, List.getElem_cons_succ, List.getElem_cons_zero]
                go_simp
                refine hK _ _ (fun h => absurd h (by decide)) ?_
                clear hK K
                try simp only [List.getElem_toArray, List.getElem_cons_succ, List.getElem_cons_zero, Act.put, List.setIfInBounds_toArray, List.set_cons_zero, List.set_cons_succ]
                refine wpAnyM_takeY (i := 16) (v := ?v7017) rfl (by kernel_rfl) (by kernel_rfl) (by kernel_rfl) (fun _ _ _ h => h) (by decide) (Or.inl ⟨by rfl, ?hy7017⟩) (fun h => absurd h (by decide)) ?rest7017
                case hy7017 => (intro w; go_simp; first | done | with_reducible rfl)
                try simp only [List.getElem_toArray, List.getElem_cons_succ, List.getElem_cons_zero, Act.put, List.setIfInBounds_toArray, List.set_cons_zero, List.set_cons_succ]
                refine wpAnyM_done (by kernel_rfl) ?_ _
                go_wp2_with fail
                go_meet
                case rel => exact ⟨by simp, _, _, D0x.out.stored KB7013 (e := (k, n)) (by rw [← HKS.out, ← HNS.out]; exact RS7013)⟩
              ·
                try simp only [List.getElem_toArray, List.getElem_cons_succ, List.getElem_cons_zero]
                go_simp
                generalize hX7018 : World.alloc _ _ = x7018
                have kx7018 : Kp [] x7009 x7018 := by rw [← hX7018]; exact (Kp.refl [] x7009).alloc _
                have RS7018 := RS7009.kp kx7018
                have KB7018 := KB7009.trans (kx7018.below RS7009.hB (fun _ h => by cases h))
                have hcI7018 : x7018.heap[x7009.heap.size]? = some (.cells #[.int .i64 n] 3) := by rw [← hX7018]; exact heap_alloc_new x7009 _
                have lt7018 : x7009.heap.size < x7018.heap.size := by rw [← hX7018]; simp
                have ne7018 : kv.ownBlock = some x7009.heap.size → False := fun h => Nat.lt_irrefl _ (RS7009.ltS _ h).2
                have hcS7009b := (kx7018.block _ lt7009 (fun h => by cases h)).trans hcS7009
                have lt7009b := Nat.lt_of_lt_of_le lt7009 kx7018.size
                clear hX7018
                refine hK _ _ (fun _ => (SF.out x7018 KB7018)) ?_
                clear hK K
                try simp only [List.getElem_toArray, List.getElem_cons_succ, List.getElem_cons_zero, Act.put, List.setIfInBounds_toArray, List.set_cons_zero, List.set_cons_succ]
                refine wpAnyM_one (i := 5) (by kernel_rfl) rfl (fun K hK => ?_)
                try simp only [List.getElem_toArray, List.getElem_cons_succ, List.getElem_cons_zero]
                refine Eq.mpr (if_pos rfl) ?_
                refine wp_append_lies _ _ _ _ (by rfl) (n0 + 4) 9 i0 _ 1 16 Try.underlying27 Hi0.out hz0 hz1 hz2 rfl (by decide) kv ks.length (ks.map Value.string) (by rfl) RS7018.ok ⟨x0.heap.size, 0, none⟩ 1 1 [.string k] (by rfl) (by rfl) (World.news_of_block (cs := #[.string k]) (t := 9) (fr := (0, 0)) hcS7009b) (by intro u hu; simp at hu; subst hu; rfl) (by decide) hn1 hn2 RS7018.hB _ rfl ?_
                intro gg7019 cap7019 x7019 hv7019 hgr7019 hat7019 hlt7019
                have RS7019 := RS7018.growS hv7019 hgr7019 hat7019
                have KB7019 := KB7018.grown hgr7019 RS7018.hB (fun j hj => (RS7018.ltS j hj).1)
                have hcI7018c := (hgr7019.block _ lt7018 (fun e => ne7018 e.symm)).trans hcI7018
                have lt7018c := Nat.lt_of_lt_of_le lt7018 hgr7019.size
                clear hv7019 hgr7019 hat7019 hlt7019
                refine hK _ _ (fun _ => (SF.out x7019 KB7019)) ?_
                clear hK K
                try simp only [List.getElem_toArray, List.getElem_cons_succ, List.getElem_cons_zero, Act.put, List.setIfInBounds_toArray, List.set_cons_zero, List.set_cons_succ]
                refine wpAnyM_takeY (i := 12) (v := ?v7020) rfl (by kernel_rfl) (by kernel_rfl) (by kernel_rfl) (fun _ _ _ h => h) (by decide) (Or.inl ⟨by rfl, ?hy7020⟩) (fun _ => (SF.out x7019 KB7019)) ?rest7020
                case hy7020 => (intro w; go_simp; first | done | with_reducible rfl)
                try simp only [List.getElem_toArray, List.getElem_cons_succ, List.getElem_cons_zero, Act.put, List.setIfInBounds_toArray, List.set_cons_zero, List.set_cons_succ]
                refine wpAnyM_one (i := 11) (by kernel_rfl) rfl (fun K hK => ?_)
                try simp only [List.getElem_toArray, List.getElem_cons_succ, List.getElem_cons_zero]
                refine Eq.mpr (if_pos rfl) ?_
                refine wp_append_lies _ _ _ _ (by rfl) (n0 + 4) 3 j0 _ 1 8 Try.underlying28 Hj0.out jz0 jz1 jz2 rfl (by decide) nv ns.length (ns.map intV) (by rfl) RS7019.on ⟨x7009.heap.size, 0, none⟩ 1 1 [.int .i64 n] (by rfl) (by rfl) (World.news_of_block (cs := #[.int .i64 n]) (t := 3) (fr := (0, 0)) hcI7018c) (by intro u hu; simp at hu; subst hu; rfl) (by decide) hm1 hm2 RS7019.hB _ rfl ?_
                intro gg7021 cap7021 x7021 hv7021 hgr7021 hat7021 hlt7021
                have RS7021 := RS7019.growI hv7021 hgr7021 hat7021
                have KB7021 := KB7019.grown hgr7021 RS7019.hB (fun j hj => (RS7019.ltI j hj).1)
                clear hv7021 hgr7021 hat7021 hlt7021
                refine hK _ _ (fun _ => (SF.out x7021 KB7021)) ?_
                clear hK K
                try simp only [List.getElem_toArray, List.getElem_cons_succ, List.getElem_cons_zero, Act.put, List.setIfInBounds_toArray, List.set_cons_zero, List.set_cons_succ]
                refine wpAnyM_one (i := 13) (by kernel_rfl) rfl (fun K hK => ?_)
                try simp only [List.getElem_toArray, List.getElem_cons_succ, List.getElem_cons_zero]
                have e0 : x7021.cell? ⟨n0 + 3, 0, none⟩ = some kv := (SF.out x7021 KB7021).1
                have e1 : x7021.cell? ⟨n0 + 3, 1, none⟩ = some nv := (SF.out x7021 KB7021).2.1
                have g0 : x7021.frozen? ⟨n0 + 3, 0, none⟩ = false := FZ.out x7021 KB7021 0
                have g1 : x7021.frozen? ⟨n0 + 3, 1, none⟩ = false := FZ.out x7021 KB7021 1
                go_simp
                refine hK _ _ (fun h => absurd h (by decide)) ?_
                clear hK K
                try simp only [List.getElem_toArray, List.getElem_cons_succ, List.getElem_cons_zero, Act.put, List.setIfInBounds_toArray, List.set_cons_zero, List.set_cons_succ]
                refine wpAnyM_takeY (i := 14) (v := ?v7023) rfl (by kernel_rfl) (by kernel_rfl) (by kernel_rfl) (fun _ _ _ h => h) (by decide) (Or.inl ⟨by rfl, ?hy7023⟩) (fun h => absurd h (by decide)) ?rest7023
                case hy7023 => (intro w; go_simp; first | done | with_reducible rfl)
                try simp only [List.getElem_toArray, List.getElem_cons_succ, List.getElem_cons_zero, Act.put, List.setIfInBounds_toArray, List.set_cons_zero, List.set_cons_succ]
                refine wpAnyM_one (i := 15) (by kernel_rfl) rfl (fun K hK => ?_)
                try simp only [List.getElem_toArray, List.getElem_cons_succ, List.getElem_cons_zero]
                go_simp
                refine hK _ _ (fun h => absurd h (by decide)) ?_
                clear hK K
                try simp only [List.getElem_toArray, List.getElem_cons_succ, List.getElem_cons_zero, Act.put, List.setIfInBounds_toArray, List.set_cons_zero, List.set_cons_succ]
                refine wpAnyM_takeY (i := 16) (v := ?v7025) rfl (by kernel_rfl) (by kernel_rfl) (by kernel_rfl) (fun _ _ _ h => h) (by decide) (Or.inl ⟨by rfl, ?hy7025⟩) (fun h => absurd h (by decide)) ?rest7025
                case hy7025 => (intro w; go_simp; first | done | with_reducible rfl)
                try simp only [List.getElem_toArray, List.getElem_cons_succ, List.getElem_cons_zero, Act.put, List.setIfInBounds_toArray, List.set_cons_zero, List.set_cons_succ]
                refine wpAnyM_done (by kernel_rfl) ?_ _
                go_wp2_with fail
                go_meet
                case rel => exact ⟨by simp, _, _, D0x.out.stored KB7021 (e := (k, n)) (by rw [← HKS.out, ← HNS.out]; exact RS7021)⟩
            ·
              try simp only [List.getElem_toArray, List.getElem_cons_succ, List.getElem_cons_zero]
              go_simp
              generalize hX7026 : World.alloc _ _ = x7026
              have kx7026 : Kp [] x0 x7026 := by rw [← hX7026]; exact (Kp.refl [] x0).alloc _
              have RS7026 := RS0.kp kx7026
              have KB7026 := KB0.trans (kx7026.below RS0.hB (fun _ h => by cases h))
              have hcI7026 : x7026.heap[x0.heap.size]? = some (.cells #[.int .i64 n] 3) := by rw [← hX7026]; exact heap_alloc_new x0 _
              have lt7026 : x0.heap.size < x7026.heap.size := by rw [← hX7026]; simp
              have ne7026 : kv.ownBlock = some x0.heap.size → False := fun h => Nat.lt_irrefl _ (RS0.ltS _ h).2
              clear hX7026
              refine hK _ _ (fun _ => (SF.out x7026 KB7026)) ?_
              clear hK K
              try simp only [List.getElem_toArray, List.getElem_cons_succ, List.getElem_cons_zero, Act.put, List.setIfInBounds_toArray, List.set_cons_zero, List.set_cons_succ]
              refine wpAnyM_one (i := 4) (by kernel_rfl) rfl (fun K hK => ?_)
              try simp only [List.getElem_toArray, List.getElem_cons_succ, List.getElem_cons_zero]
              go_simp
              generalize hX7027 : World.alloc _ _ = x7027
              have kx7027 : Kp [] x7026 x7027 := by rw [← hX7027]; exact (Kp.refl [] x7026).alloc _
              have RS7027 := RS7026.kp kx7027
              have KB7027 := KB7026.trans (kx7027.below RS7026.hB (fun _ h => by cases h))
              have hcS7027 : x7027.heap[x7026.heap.size]? = some (.cells #[.string k] 9) := by rw [← hX7027]; exact heap_alloc_new x7026 _
              have lt7027 : x7026.heap.size < x7027.heap.size := by rw [← hX7027]; simp
              have hcI7026b := (kx7027.block _ lt7026 (fun h => by cases h)).trans hcI7026
              have lt7026b := Nat.lt_of_lt_of_le lt7026 kx7027.size
              clear hX7027
              refine hK _ _ (fun _ => (SF.out x7027 KB7027)) ?_
              clear hK K
              try simp only [List.getElem_toArray, List.getElem_cons_succ, List.getElem_cons_zero, Act.put, List.setIfInBounds_toArray, List.set_cons_zero, List.set_cons_succ]
              refine wpAnyM_one (i := 5) (by kernel_rfl) rfl (fun K hK => ?_)
              try simp only [List.getElem_toArray, List.getElem_cons_succ, List.getElem_cons_zero]
              refine Eq.mpr (if_pos rfl) ?_
              refine wp_append_lies _ _ _ _ (by rfl) (n0 + 4) 9 i0 _ 1 16 Try.underlying27 Hi0.out hz0 hz1 hz2 rfl (by decide) kv ks.length (ks.map Value.string) (by rfl) RS7027.ok ⟨x7026.heap.size, 0, none⟩ 1 1 [.string k] (by rfl) (by rfl) (World.news_of_block (cs := #[.string k]) (t := 9) (fr := (0, 0)) hcS7027) (by intro u hu; simp at hu; subst hu; rfl) (by decide) hn1 hn2 RS7027.hB _ rfl ?_
              intro gg7028 cap7028 x7028 hv7028 hgr7028 hat7028 hlt7028
              have RS7028 := RS7027.growS hv7028 hgr7028 hat7028
              have KB7028 := KB7027.grown hgr7028 RS7027.hB (fun j hj => (RS7027.ltS j hj).1)
              have hcI7026bc := (hgr7028.block _ lt7026b (fun e => ne7026 e.symm)).trans hcI7026b
              have lt7026bc := Nat.lt_of_lt_of_le lt7026b hgr7028.size
              clear hv7028 hgr7028 hat7028 hlt7028
              refine hK _ _ (fun _ => (SF.out x7028 KB7028)) ?_
              clear hK K
              try simp only [List.getElem_toArray, List.getElem_cons_succ, List.getElem_cons_zero, Act.put, List.setIfInBounds_toArray, List.set_cons_zero, List.set_cons_succ]
              refine wpAnyM_takeY (i := 12) (v := ?v7029) rfl (by kernel_rfl) (by kernel_rfl) (by kernel_rfl) (fun _ _ _ h => h) (by decide) (Or.inl ⟨by rfl, ?hy7029⟩) (fun _ => (SF.out x7028 KB7028)) ?rest7029
              case hy7029 => (intro w; go_simp; first | done | with_reducible rfl)
              try simp only [List.getElem_toArray, List.getElem_cons_succ, List.getElem_cons_zero, Act.put, List.setIfInBounds_toArray, List.set_cons_zero, List.set_cons_succ]
              refine wpAnyM_one (i := 11) (by kernel_rfl) rfl (fun K hK => ?_)
              try simp only [List.getElem_toArray, List.getElem_cons_succ, List.getElem_cons_zero]
              refine Eq.mpr (if_pos rfl) ?_
              refine wp_append_lies _ _ _ _ (by rfl) (n0 + 4) 3 j0 _ 1 8 Try.underlying28 Hj0.out jz0 jz1 jz2 rfl (by decide) nv ns.length (ns.map intV) (by rfl) RS7028.on ⟨x0.heap.size, 0, none⟩ 1 1 [.int .i64 n] (by rfl) (by rfl) (World.news_of_block (cs := #[.int .i64 n]) (t := 3) (fr := (0, 0)) hcI7026bc) (by intro u hu; simp at hu; subst hu; rfl) (by decide) hm1 hm2 RS7028.hB _ rfl ?_
              intro gg7030 cap7030 x7030 hv7030 hgr7030 hat7030 hlt7030
              have RS7030 := RS7028.growI hv7030 hgr7030 hat7030
              have KB7030 := KB7028.grown hgr7030 RS7028.hB (fun j hj => (RS7028.ltI j hj).1)
              clear hv7030 hgr7030 hat7030 hlt7030
              refine hK _ _ (fun _ => (SF.out x7030 KB7030)) ?_
              clear hK K
              try simp only [List.getElem_toArray, List.getElem_cons_succ, List.getElem_cons_zero, Act.put, List.setIfInBounds_toArray, List.set_cons_zero, List.set_cons_succ]
              refine wpAnyM_one (i := 13) (by kernel_rfl) rfl (fun K hK => ?_)
              try simp only [List.getElem_toArray, List.getElem_cons_succ, List.getElem_cons_zero]
              have e0 : x7030.cell? ⟨n0 + 3, 0, none⟩ = some kv := (SF.out x7030 KB7030).1
              have e1 : x7030.cell? ⟨n0 + 3, 1, none⟩ = some nv := (SF.out x7030 KB7030).2.1
              have g0 : x7030.frozen? ⟨n0 + 3, 0, none⟩ = false := FZ.out x7030 KB7030 0
              have g1 : x7030.frozen? ⟨n0 + 3, 1, none⟩ = false := FZ.out x7030 KB7030 1
              go_simp
              refine hK _ _ (fun h => absurd h (by decide)) ?_
              clear hK K
              try simp only [List.getElem_toArray, List.getElem_cons_succ, List.getElem_cons_zero, Act.put, List.setIfInBounds_toArray, List.set_cons_zero, List.set_cons_succ]
              refine wpAnyM_takeY (i := 14) (v := ?v7032) rfl (by kernel_rfl) (by kernel_rfl) (by kernel_rfl) (fun _ _ _ h => h) (by decide) (Or.inl ⟨by rfl, ?hy7032⟩) (fun h => absurd h (by decide)) ?rest7032
              case hy7032 => (intro w; go_simp; first | done | with_reducible rfl)
              try simp only [List.getElem_toArray, List.getElem_cons_succ, List.getElem_cons_zero, Act.put, List.setIfInBounds_toArray, List.set_cons_zero, List.set_cons_succ]
              refine wpAnyM_one (i := 15) (by kernel_rfl) rfl (fun K hK => ?_)
              try simp only [List.getElem_toArray, List.getElem_cons_succ, List.getElem_cons_zero]
              go_simp
              refine hK _ _ (fun h => absurd h (by decide)) ?_
              clear hK K
              try simp only [List.getElem_toArray, List.getElem_cons_succ, List.getElem_cons_zero, Act.put, List.setIfInBounds_toArray, List.set_cons_zero, List.set_cons_succ]
              refine wpAnyM_takeY (i := 16) (v := ?v7034) rfl (by kernel_rfl) (by kernel_rfl) (by kernel_rfl) (fun _ _ _ h => h) (by decide) (Or.inl ⟨by rfl, ?hy7034⟩) (fun h => absurd h (by decide)) ?rest7034
              case hy7034 => (intro w; go_simp; first | done | with_reducible rfl)
              try simp only [List.getElem_toArray, List.getElem_cons_succ, List.getElem_cons_zero, Act.put, List.setIfInBounds_toArray, List.set_cons_zero, List.set_cons_succ]
              refine wpAnyM_done (by kernel_rfl) ?_ _
              go_wp2_with fail
              go_meet
              case rel => exact ⟨by simp, _, _, D0x.out.stored KB7030 (e := (k, n)) (by rw [← HKS.out, ← HNS.out]; exact RS7030)⟩
        case rest =>
          obtain ⟨rfl, HX⟩ := hcut
          obtain ⟨kv3, nv3, D2⟩ := HX.out
          have HD3 := Lib.hid D2
          clear HX D2 HD2
          obtain ⟨out2, ho2⟩ : ∃ out2, out2 = (if ins then out ++ [(k, n)] else out) := ⟨_, rfl⟩
          rw [← ho2] at HD3
          have HO2 : Hid (out2.length ≤ 2 * q + 1 ∧ stp k n (ff, out) (ek, en) = (ff || ins, out2 ++ (if ek = k then [] else [(ek, en)]))) := by
            refine ⟨?_, ?_⟩
            · rw [ho2]; have := HF.out.2; split <;> simp <;> omega
            · unfold stp
              simp only
              rw [← HLT.out, ← HI.out, ← ho2]
          clear ho2 HF HLT HI
          have m0 := HD3.out.m0
          have c1 := (CA.out wc HD3.out.dn.kb).1
          have s0 := HD3.out.s0
          have hne := eq_toList ek k
          go_wp2_with fail
          by_cases hek : ek = k
          · rw [decide_eq_true hek] at hne
            rw [if_pos hek] at HO2
            rw [HO2.out.2, List.append_nil] at HFq
            clear hek
            go_quiet (fail)
            go_wp2_with fail
            go_roundw
            case rel =>
              exact ⟨q + 1, ff || ins, kv3, nv3, out2, Hlt.out, by go_num, rfl, ⟨HFq.out.symm, by have := HO2.out.1; omega⟩, HD3.out.kp ((Kp.refl [] wc).drewN _)⟩
            case measure => have := Hlt.out; simp [intOf]; omega
          · rw [decide_eq_false hek] at hne
            rw [if_neg hek] at HO2
            rw [HO2.out.2] at HFq
            clear hek
            go_quiet (fail)
            go_wp2_with fail
            obtain ⟨ks, hks⟩ : ∃ ks, ks = out2.map (·.1) := ⟨_, rfl⟩
            obtain ⟨ns, hns⟩ : ∃ ns, ns = out2.map (·.2) := ⟨_, rfl⟩
            have hkl : ks.length = out2.length := by rw [hks, List.length_map]
            have hnl : ns.length = out2.length := by rw [hns, List.length_map]
            have hol : out2.length ≤ 2001 := by have := HO2.out.1; have := Hlt.out; omega
            have hn1 : ks.length + 1 ≤ maxLen := by unfold maxLen; omega
            have hn2 : (ks.length + 1) * 16 ≤ 140737488355328 := by omega
            have hm1 : ns.length + 1 ≤ maxLen := by unfold maxLen; omega
            have hm2 : (ns.length + 1) * 8 ≤ 140737488355328 := by omega
            have HKS := Lib.hid hks
            have HNS := Lib.hid hns
            obtain ⟨i0, hi0, hz0, hz1, hz2⟩ := info_parts strInfo
            obtain ⟨j0, hj0, jz0, jz1, jz2⟩ := info_parts intInfo
            have Hi0 := Lib.hid hi0
            have Hj0 := Lib.hid hj0
            clear hks hns hkl hnl hol hi0 hj0
            refine wp_region_M (Sm n0 kv3 nv3 (.slice (some ⟨g, o, none⟩) z c) (.slice (some ⟨g2, o2, none⟩) z d) g (o + q) g2 (o2 + q) ek en) 19 (by kernel_rfl) ?_
            generalize hX : World.drew _ = x0
            have kx0 : Kp [] wc x0 := by rw [← hX]; first | exact (Kp.refl [] wc).drew | exact ((Kp.refl [] wc).drewN _).drew
            have D0x := Lib.hid (HD3.out.kp kx0)
            have SF : Hid (∀ X, Below (n0 + 4) x0 X → Sm n0 kv3 nv3 (.slice (some ⟨g, o, none⟩) z c) (.slice (some ⟨g2, o2, none⟩) z d) g (o + q) g2 (o2 + q) ek en X) := fun X K => dSm D0x.out CA.out K
            have FZ : Hid (∀ X, Below (n0 + 4) x0 X → ∀ o, X.frozen? ⟨n0 + 3, o, none⟩ = false) := fun X K o => (World.frozen?_of_block (w := x0) (K.block (n0 + 3) (by omega))).trans (D0x.out.dn.fz o)
            have RS0 : RS (n0 + 4) x0 kv3 nv3 ks ns := by rw [HKS.out, HNS.out]; exact D0x.out.dn.rs
            have KB0 := Below.refl (n0 + 4) x0
            have hS0 := SF.out x0 KB0
            clear hX
            refine wpAnyM_takeY (i := 0) (v := ?v9001) rfl (by kernel_rfl) (by kernel_rfl) (by kernel_rfl) (fun _ _ _ h => h) (by decide) (Or.inl ⟨by rfl, ?hy9001⟩) (fun _ => hS0) ?rest9001
            case hy9001 => (intro w; go_simp; first | done | with_reducible rfl)
            try simp only [List.getElem_toArray, List.getElem_cons_succ, List.getElem_cons_zero, Act.put, List.setIfInBounds_toArray, List.set_cons_zero, List.set_cons_succ]
            refine wpAnyM_takeY (i := 2) (v := ?v9002) rfl (by kernel_rfl) (by kernel_rfl) (by kernel_rfl) (fun _ _ _ h => h) (by decide) (Or.inl ⟨by rfl, ?hy9002⟩) (fun _ => hS0) ?rest9002
            case hy9002 => (intro w; go_simp; first | done | with_reducible rfl)
            try simp only [List.getElem_toArray, List.getElem_cons_succ, List.getElem_cons_zero, Act.put, List.setIfInBounds_toArray, List.set_cons_zero, List.set_cons_succ]
            refine wpAnyM_takeY (i := 4) (v := ?v9003) rfl (by kernel_rfl) (by kernel_rfl) (by kernel_rfl) (fun _ _ _ h => h) (by decide) (Or.inl ⟨by rfl, ?hy9003⟩) (fun _ => hS0) ?rest9003
            case hy9003 => (intro w; go_simp; first | done | with_reducible rfl)
            try simp only [List.getElem_toArray, List.getElem_cons_succ, List.getElem_cons_zero, Act.put, List.setIfInBounds_toArray, List.set_cons_zero, List.set_cons_succ]
            refine wpAnyM_takeY (i := 9) (v := ?v9004) rfl (by kernel_rfl) (by kernel_rfl) (by kernel_rfl) (fun _ _ _ h => h) (by decide) (Or.inl ⟨by rfl, ?hy9004⟩) (fun _ => hS0) ?rest9004
            case hy9004 => (intro w; go_simp; first | done | with_reducible rfl)
            try simp only [List.getElem_toArray, List.getElem_cons_succ, List.getElem_cons_zero, Act.put, List.setIfInBounds_toArray, List.set_cons_zero, List.set_cons_succ]
            refine wpAnyM_takeY (i := 11) (v := ?v9005) rfl (by kernel_rfl) (by kernel_rfl) (by kernel_rfl) (fun _ _ _ h => h) (by decide) (Or.inl ⟨by rfl, ?hy9005⟩) (fun _ => hS0) ?rest9005
            case hy9005 => (intro w; go_simp; first | done | with_reducible rfl)
            try simp only [List.getElem_toArray, List.getElem_cons_succ, List.getElem_cons_zero, Act.put, List.setIfInBounds_toArray, List.set_cons_zero, List.set_cons_succ]
            refine wpAnyM_takeY (i := 13) (v := ?v9006) rfl (by kernel_rfl) (by kernel_rfl) (by kernel_rfl) (fun _ _ _ h => h) (by decide) (Or.inl ⟨by rfl, ?hy9006⟩) (fun _ => hS0) ?rest9006
            case hy9006 => (intro w; go_simp; first | done | with_reducible rfl)
            try simp only [List.getElem_toArray, List.getElem_cons_succ, List.getElem_cons_zero, Act.put, List.setIfInBounds_toArray, List.set_cons_zero, List.set_cons_succ]
            refine wpAnyM_takeC (i := 1) (c := 1) (r := []) (v := ?v9007) rfl (by kernel_rfl) (by kernel_rfl) (by kernel_rfl) (fun _ _ _ h => h) (by decide) (by kernel_rfl) rfl (by kernel_rfl) (by kernel_rfl) (Or.inl ⟨by rfl, ?hy9007⟩) hS0 ?rest9007
            case hy9007 => (intro w hS; obtain ⟨s1, s2, s3, s4, s5, s6⟩ := hS; go_simp; first | done | with_reducible rfl)
            try simp only [List.getElem_toArray, List.getElem_cons_succ, List.getElem_cons_zero, Act.put, List.setIfInBounds_toArray, List.set_cons_zero, List.set_cons_succ]
            refine wpAnyM_takeC (i := 3) (c := 3) (r := []) (v := ?v9008) rfl (by kernel_rfl) (by kernel_rfl) (by kernel_rfl) (fun _ _ _ h => h) (by decide) (by kernel_rfl) rfl (by kernel_rfl) (by kernel_rfl) (Or.inl ⟨by rfl, ?hy9008⟩) hS0 ?rest9008
            case hy9008 => (intro w hS; obtain ⟨s1, s2, s3, s4, s5, s6⟩ := hS; go_simp; first | done | with_reducible rfl)
            try simp only [List.getElem_toArray, List.getElem_cons_succ, List.getElem_cons_zero, Act.put, List.setIfInBounds_toArray, List.set_cons_zero, List.set_cons_succ]
            refine wpAnyM_takeY (i := 5) (v := ?v9009) rfl (by kernel_rfl) (by kernel_rfl) (by kernel_rfl) (fun _ _ _ h => h) (by decide) (Or.inl ⟨by rfl, ?hy9009⟩) (fun _ => hS0) ?rest9009
            case hy9009 => (intro w; go_simp; first | done | with_reducible rfl)
            try simp only [List.getElem_toArray, List.getElem_cons_succ, List.getElem_cons_zero, Act.put, List.setIfInBounds_toArray, List.set_cons_zero, List.set_cons_succ]
            refine wpAnyM_takeC (i := 6) (c := 6) (r := []) (v := ?v9010) rfl (by kernel_rfl) (by kernel_rfl) (by kernel_rfl) (fun _ _ _ h => h) (by decide) (by kernel_rfl) rfl (by kernel_rfl) (by kernel_rfl) (Or.inl ⟨by rfl, ?hy9010⟩) hS0 ?rest9010
            case hy9010 => (intro w hS; obtain ⟨s1, s2, s3, s4, s5, s6⟩ := hS; go_simp; first | done | with_reducible rfl)
            try simp only [List.getElem_toArray, List.getElem_cons_succ, List.getElem_cons_zero, Act.put, List.setIfInBounds_toArray, List.set_cons_zero, List.set_cons_succ]
            refine wpAnyM_takeC (i := 10) (c := 10) (r := []) (v := ?v9011) rfl (by kernel_rfl) (by kernel_rfl) (by kernel_rfl) (fun _ _ _ h => h) (by decide) (by kernel_rfl) rfl (by kernel_rfl) (by kernel_rfl) (Or.inl ⟨by rfl, ?hy9011⟩) hS0 ?rest9011
            case hy9011 => (intro w hS; obtain ⟨s1, s2, s3, s4, s5, s6⟩ := hS; go_simp; first | done | with_reducible rfl)
            try simp only [List.getElem_toArray, List.getElem_cons_succ, List.getElem_cons_zero, Act.put, List.setIfInBounds_toArray, List.set_cons_zero, List.set_cons_succ]
            refine wpAnyM_takeC (i := 12) (c := 17) (r := [16, 15, 14, 12]) (v := ?v9012) rfl (by kernel_rfl) (by kernel_rfl) (by kernel_rfl) (fun _ _ _ h => h) (by decide) (by kernel_rfl) rfl (by kernel_rfl) (by kernel_rfl) (Or.inl ⟨by rfl, ?hy9012⟩) hS0 ?rest9012
            case hy9012 => (intro w hS; obtain ⟨s1, s2, s3, s4, s5, s6⟩ := hS; go_simp; first | done | with_reducible rfl)
            try simp only [List.getElem_toArray, List.getElem_cons_succ, List.getElem_cons_zero, Act.put, List.setIfInBounds_toArray, List.set_cons_zero, List.set_cons_succ]
            refine wpAnyM_takeY (i := 14) (v := ?v9013) rfl (by kernel_rfl) (by kernel_rfl) (by kernel_rfl) (fun _ _ _ h => h) (by decide) (Or.inl ⟨by rfl, ?hy9013⟩) (fun _ => hS0) ?rest9013
            case hy9013 => (intro w; go_simp; first | done | with_reducible rfl)
            try simp only [List.getElem_toArray, List.getElem_cons_succ, List.getElem_cons_zero, Act.put, List.setIfInBounds_toArray, List.set_cons_zero, List.set_cons_succ]
            refine wpAnyM_takeC (i := 15) (c := 17) (r := [16, 15]) (v := ?v9014) rfl (by kernel_rfl) (by kernel_rfl) (by kernel_rfl) (fun _ _ _ h => h) (by decide) (by kernel_rfl) rfl (by kernel_rfl) (by kernel_rfl) (Or.inl ⟨by rfl, ?hy9014⟩) hS0 ?rest9014
            case hy9014 => (intro w hS; obtain ⟨s1, s2, s3, s4, s5, s6⟩ := hS; go_simp; first | done | with_reducible rfl)
            try simp only [List.getElem_toArray, List.getElem_cons_succ, List.getElem_cons_zero, Act.put, List.setIfInBounds_toArray, List.set_cons_zero, List.set_cons_succ]
            refine wpAnyM_two (i := 7) (j := 16) (by kernel_rfl) rfl rfl (fun K hK => ?_) (fun K hK => ?_)
            ·
              try simp only [List.getElem_toArray, List.getElem_cons_succ, List.getElem_cons_zero]
              go_simp
              generalize hX9015 : World.alloc _ _ = x9015
              have kx9015 : Kp [] x0 x9015 := by rw [← hX9015]; exact (Kp.refl [] x0).alloc _
              have RS9015 := RS0.kp kx9015
              have KB9015 := KB0.trans (kx9015.below RS0.hB (fun _ h => by cases h))
              have hcS9015 : x9015.heap[x0.heap.size]? = some (.cells #[.string ek] 9) := by rw [← hX9015]; exact heap_alloc_new x0 _
              have lt9015 : x0.heap.size < x9015.heap.size := by rw [← hX9015]; simp
              clear hX9015
              refine hK _ _ (fun _ => (SF.out x9015 KB9015)) ?_
              clear hK K
              try simp only [List.getElem_toArray, List.getElem_cons_succ, List.getElem_cons_zero, Act.put, List.setIfInBounds_toArray, List.set_cons_zero, List.set_cons_succ]
              refine wpAnyM_two (i := 8) (j := 16) (by kernel_rfl) rfl rfl (fun K hK => ?_) (fun K hK => ?_)
              ·
                try simp only [List.getElem_toArray, List.getElem_cons_succ, List.getElem_cons_zero]
                refine Eq.mpr (if_pos rfl) ?_
                refine wp_append_lies _ _ _ _ (by rfl) (n0 + 4) 9 i0 _ 1 16 Try.underlying27 Hi0.out hz0 hz1 hz2 rfl (by decide) kv3 ks.length (ks.map Value.string) (by rfl) RS9015.ok ⟨x0.heap.size, 0, none⟩ 1 1 [.string ek] (by rfl) (by rfl) (World.news_of_block (cs := #[.string ek]) (t := 9) (fr := (0, 0)) hcS9015) (by intro u hu; simp at hu; subst hu; rfl) (by decide) hn1 hn2 RS9015.hB _ rfl ?_
                intro gg9016 cap9016 x9016 hv9016 hgr9016 hat9016 hlt9016
                have RS9016 := RS9015.growS hv9016 hgr9016 hat9016
                have KB9016 := KB9015.grown hgr9016 RS9015.hB (fun j hj => (RS9015.ltS j hj).1)
                clear hv9016 hgr9016 hat9016 hlt9016
                refine hK _ _ (fun _ => (SF.out x9016 KB9016)) ?_
                clear hK K
                try simp only [List.getElem_toArray, List.getElem_cons_succ, List.getElem_cons_zero, Act.put, List.setIfInBounds_toArray, List.set_cons_zero, List.set_cons_succ]
                refine wpAnyM_takeY (i := 18) (v := ?v9017) rfl (by kernel_rfl) (by kernel_rfl) (by kernel_rfl) (fun _ _ _ h => h) (by decide) (Or.inl ⟨by rfl, ?hy9017⟩) (fun _ => (SF.out x9016 KB9016)) ?rest9017
                case hy9017 => (intro w; go_simp; first | done | with_reducible rfl)
                try simp only [List.getElem_toArray, List.getElem_cons_succ, List.getElem_cons_zero, Act.put, List.setIfInBounds_toArray, List.set_cons_zero, List.set_cons_succ]
                refine wpAnyM_one (i := 16) (by kernel_rfl) rfl (fun K hK => ?_)
                try simp only [List.getElem_toArray, List.getElem_cons_succ, List.getElem_cons_zero]
                go_simp
                generalize hX9018 : World.alloc _ _ = x9018
                have kx9018 : Kp [] x9016 x9018 := by rw [← hX9018]; exact (Kp.refl [] x9016).alloc _
                have RS9018 := RS9016.kp kx9018
                have KB9018 := KB9016.trans (kx9018.below RS9016.hB (fun _ h => by cases h))
                have hcI9018 : x9018.heap[x9016.heap.size]? = some (.cells #[.int .i64 en] 3) := by rw [← hX9018]; exact heap_alloc_new x9016 _
                have lt9018 : x9016.heap.size < x9018.heap.size := by rw [← hX9018]; simp
                have ne9018 : (Value.slice (some ⟨gg9016, 0, none⟩) (ks.length + 1) cap9016).ownBlock = some x9016.heap.size → False := fun h => Nat.lt_irrefl _ (RS9016.ltS _ h).2
                clear hX9018
                refine hK _ _ (fun _ => (SF.out x9018 KB9018)) ?_
                clear hK K
                try simp only [List.getElem_toArray, List.getElem_cons_succ, List.getElem_cons_zero, Act.put, List.setIfInBounds_toArray, List.set_cons_zero, List.set_cons_succ]
                refine wpAnyM_one (i := 17) (by kernel_rfl) rfl (fun K hK => ?_)
                try simp only [List.getElem_toArray, List.getElem_cons_succ, List.getElem_cons_zero]
                refine Eq.mpr (if_pos rfl) ?_
                refine wp_append_lies _ _ _ _ (by rfl) (n0 + 4) 3 j0 _ 1 8 Try.underlying28 Hj0.out jz0 jz1 jz2 rfl (by decide) nv3 ns.length (ns.map intV) (by rfl) RS9018.on ⟨x9016.heap.size, 0, none⟩ 1 1 [.int .i64 en] (by rfl) (by rfl) (World.news_of_block (cs := #[.int .i64 en]) (t := 3) (fr := (0, 0)) hcI9018) (by intro u hu; simp at hu; subst hu; rfl) (by decide) hm1 hm2 RS9018.hB _ rfl ?_
                intro gg9019 cap9019 x9019 hv9019 hgr9019 hat9019 hlt9019
                have RS9019 := RS9018.growI hv9019 hgr9019 hat9019
                have KB9019 := KB9018.grown hgr9019 RS9018.hB (fun j hj => (RS9018.ltI j hj).1)
                clear hv9019 hgr9019 hat9019 hlt9019
                refine hK _ _ (fun _ => (SF.out x9019 KB9019)) ?_
                clear hK K
                try simp only [List.getElem_toArray, List.getElem_cons_succ, List.getElem_cons_zero, Act.put, List.setIfInBounds_toArray, List.set_cons_zero, List.set_cons_succ]
                refine wpAnyM_one (i := 19) (by kernel_rfl) rfl (fun K hK => ?_)
                try simp only [List.getElem_toArray, List.getElem_cons_succ, List.getElem_cons_zero]
                have e0 : x9019.cell? ⟨n0 + 3, 0, none⟩ = some kv3 := (SF.out x9019 KB9019).1
                have e1 : x9019.cell? ⟨n0 + 3, 1, none⟩ = some nv3 := (SF.out x9019 KB9019).2.1
                have g0 : x9019.frozen? ⟨n0 + 3, 0, none⟩ = false := FZ.out x9019 KB9019 0
                have g1 : x9019.frozen? ⟨n0 + 3, 1, none⟩ = false := FZ.out x9019 KB9019 1
                go_simp
                refine hK _ _ (fun h => absurd h (by decide)) ?_
                clear hK K
                try simp only [List.getElem_toArray, List.getElem_cons_succ, List.getElem_cons_zero, Act.put, List.setIfInBounds_toArray, List.set_cons_zero, List.set_cons_succ]
                refine wpAnyM_takeY (i := 20) (v := ?v9021) rfl (by kernel_rfl) (by kernel_rfl) (by kernel_rfl) (fun _ _ _ h => h) (by decide) (Or.inl ⟨by rfl, ?hy9021⟩) (fun h => absurd h (by decide)) ?rest9021
                case hy9021 => (intro w; go_simp; first | done | with_reducible rfl)
                try simp only [List.getElem_toArray, List.getElem_cons_succ, List.getElem_cons_zero, Act.put, List.setIfInBounds_toArray, List.set_cons_zero, List.set_cons_succ]
                refine wpAnyM_one (i := 21) (by kernel_rfl) rfl (fun K hK => ?_)
                try simp only [List.getElem_toArray, List.getElem_cons_succ, List.getElem_cons_zero]
                go_simp
                refine hK _ _ (fun h => absurd h (by decide)) ?_
                clear hK K
                try simp only [List.getElem_toArray, List.getElem_cons_succ, List.getElem_cons_zero, Act.put, List.setIfInBounds_toArray, List.set_cons_zero, List.set_cons_succ]
                refine wpAnyM_done (by kernel_rfl) ?_ _
                have D9 : Hid (DnSt n0 y _ _ _ k n del _ _ (out2 ++ [(ek, en)])) := D0x.out.stored KB9019 (e := (ek, en)) (by rw [← HKS.out, ← HNS.out]; exact RS9019)
                go_wp2_with fail
                go_roundw
                case rel => exact ⟨q + 1, ff || ins, _, _, _, Hlt.out, by go_num, rfl, ⟨HFq.out.symm, by have := HO2.out.1; simp; omega⟩, D9⟩
                case measure => have := Hlt.out; simp [intOf]; omega
              ·
                try simp only [List.getElem_toArray, List.getElem_cons_succ, List.getElem_cons_zero]
                go_simp
                generalize hX9023 : World.alloc _ _ = x9023
                have kx9023 : Kp [] x9015 x9023 := by rw [← hX9023]; exact (Kp.refl [] x9015).alloc _
                have RS9023 := RS9015.kp kx9023
                have KB9023 := KB9015.trans (kx9023.below RS9015.hB (fun _ h => by cases h))
                have hcI9023 : x9023.heap[x9015.heap.size]? = some (.cells #[.int .i64 en] 3) := by rw [← hX9023]; exact heap_alloc_new x9015 _
                have lt9023 : x9015.heap.size < x9023.heap.size := by rw [← hX9023]; simp
                have ne9023 : kv3.ownBlock = some x9015.heap.size → False := fun h => Nat.lt_irrefl _ (RS9015.ltS _ h).2
                have hcS9015b := (kx9023.block _ lt9015 (fun h => by cases h)).trans hcS9015
                have lt9015b := Nat.lt_of_lt_of_le lt9015 kx9023.size
                clear hX9023
                refine hK _ _ (fun _ => (SF.out x9023 KB9023)) ?_
                clear hK K
                try simp only [List.getElem_toArray, List.getElem_cons_succ, List.getElem_cons_zero, Act.put, List.setIfInBounds_toArray, List.set_cons_zero, List.set_cons_succ]
                refine wpAnyM_one (i := 8) (by kernel_rfl) rfl (fun K hK => ?_)
                try simp only [List.getElem_toArray, List.getElem_cons_succ, List.getElem_cons_zero]
                refine Eq.mpr (if_pos rfl) ?_
                refine wp_append_lies _ _ _ _ (by rfl) (n0 + 4) 9 i0 _ 1 16 Try.underlying27 Hi0.out hz0 hz1 hz2 rfl (by decide) kv3 ks.length (ks.map Value.string) (by rfl) RS9023.ok ⟨x0.heap.size, 0, none⟩ 1 1 [.string ek] (by rfl) (by rfl) (World.news_of_block (cs := #[.string ek]) (t := 9) (fr := (0, 0)) hcS9015b) (by intro u hu; simp at hu; subst hu; rfl) (by decide) hn1 hn2 RS9023.hB _ rfl ?_
                intro gg9024 cap9024 x9024 hv9024 hgr9024 hat9024 hlt9024
                have RS9024 := RS9023.growS hv9024 hgr9024 hat9024
                have KB9024 := KB9023.grown hgr9024 RS9023.hB (fun j hj => (RS9023.ltS j hj).1)
                have hcI9023c := (hgr9024.block _ lt9023 (fun e => ne9023 e.symm)).trans hcI9023
                have lt9023c := Nat.lt_of_lt_of_le lt9023 hgr9024.size
                clear hv9024 hgr9024 hat9024 hlt9024
                refine hK _ _ (fun _ => (SF.out x9024 KB9024)) ?_
                clear hK K
                try simp only [List.getElem_toArray, List.getElem_cons_succ, List.getElem_cons_zero, Act.put, List.setIfInBounds_toArray, List.set_cons_zero, List.set_cons_succ]
                refine wpAnyM_takeY (i := 18) (v := ?v9025) rfl (by kernel_rfl) (by kernel_rfl) (by kernel_rfl) (fun _ _ _ h => h) (by decide) (Or.inl ⟨by rfl, ?hy9025⟩) (fun _ => (SF.out x9024 KB9024)) ?rest9025
                case hy9025 => (intro w; go_simp; first | done | with_reducible rfl)
                try simp only [List.getElem_toArray, List.getElem_cons_succ, List.getElem_cons_zero, Act.put, List.setIfInBounds_toArray, List.set_cons_zero, List.set_cons_succ]
                refine wpAnyM_one (i := 17) (by kernel_rfl) rfl (fun K hK => ?_)
                try simp only [List.getElem_toArray, List.getElem_cons_succ, List.getElem_cons_zero]
                refine Eq.mpr (if_pos rfl) ?_
                refine wp_append_lies _ _ _ _ (by rfl) (n0 + 4) 3 j0 _ 1 8 Try.underlying28 Hj0.out jz0 jz1 jz2 rfl (by decide) nv3 ns.length (ns.map intV) (by rfl) RS9024.on ⟨x9015.heap.size, 0, none⟩ 1 1 [.int .i64 en] (by rfl) (by rfl) (World.news_of_block (cs := #[.int .i64 en]) (t := 3) (fr := (0, 0)) hcI9023c) (by intro u hu; simp at hu; subst hu; rfl) (by decide) hm1 hm2 RS9024.hB _ rfl ?_
                intro gg9026 cap9026 x9026 hv9026 hgr9026 hat9026 hlt9026
                have RS9026 := RS9024.growI hv9026 hgr9026 hat9026
                have KB9026 := KB9024.grown hgr9026 RS9024.hB (fun j hj => (RS9024.ltI j hj).1)
                clear hv9026 hgr9026 hat9026 hlt9026
                refine hK _ _ (fun _ => (SF.out x9026 KB9026)) ?_
                clear hK K
                try simp only [List.getElem_toArray, List.getElem_cons_succ, List.getElem_cons_zero, Act.put, List.setIfInBounds_toArray, List.set_cons_zero, List.set_cons_succ]
                refine wpAnyM_one (i := 19) (by kernel_rfl) rfl (fun K hK => ?_)
                try simp only [List.getElem_toArray, List.getElem_cons_succ, List.getElem_cons_zero]
                have e0 : x9026.cell? ⟨n0 + 3, 0, none⟩ = some kv3 := (SF.out x9026 KB9026).1
                have e1 : x9026.cell? ⟨n0 + 3, 1, none⟩ = some nv3 := (SF.out x9026 KB9026).2.1
                have g0 : x9026.frozen? ⟨n0 + 3, 0, none⟩ = false := FZ.out x9026 KB9026 0
                have g1 : x9026.frozen? ⟨n0 + 3, 1, none⟩ = false := FZ.out x9026 KB9026 1
                go_simp
                refine hK _ _ (fun h => absurd h (by decide)) ?_
                clear hK K
                try simp only [List.getElem_toArray, List.getElem_cons_succ, List.getElem_cons_zero, Act.put, List.setIfInBounds_toArray, List.set_cons_zero, List.set_cons_succ]
                refine wpAnyM_takeY (i := 20) (v := ?v9028) rfl (by kernel_rfl) (by kernel_rfl) (by kernel_rfl) (fun _ _ _ h => h) (by decide) (Or.inl ⟨by rfl, ?hy9028⟩) (fun h => absurd h (by decide)) ?rest9028
                case hy9028 => (intro w; go_simp; first | done | with_reducible rfl)
                try simp only [List.getElem_toArray, List.getElem_cons_succ, List.getElem_cons_zero, Act.put, List.setIfInBounds_toArray, List.set_cons_zero, List.set_cons_succ]
                refine wpAnyM_one (i := 21) (by kernel_rfl) rfl (fun K hK => ?_)
                try simp only [List.getElem_toArray, List.getElem_cons_succ, List.getElem_cons_zero]
                go_simp
                refine hK _ _ (fun h => absurd h (by decide)) ?_
                clear hK K
                try simp only [List.getElem_toArray, List.getElem_cons_succ, List.getElem_cons_zero, Act.put, List.setIfInBounds_toArray, List.set_cons_zero, List.set_cons_succ]
                refine wpAnyM_done (by kernel_rfl) ?_ _
                have D9 : Hid (DnSt n0 y _ _ _ k n del _ _ (out2 ++ [(ek, en)])) := D0x.out.stored KB9026 (e := (ek, en)) (by rw [← HKS.out, ← HNS.out]; exact RS9026)
                go_wp2_with fail
                go_roundw
                case rel => exact ⟨q + 1, ff || ins, _, _, _, Hlt.out, by go_num, rfl, ⟨HFq.out.symm, by have := HO2.out.1; simp; omega⟩, D9⟩
                case measure => have := Hlt.out; simp [intOf]; omega
            ·
              try simp only [List.getElem_toArray, List.getElem_cons_succ, List.getElem_cons_zero]
              go_simp
              generalize hX9030 : World.alloc _ _ = x9030
              have kx9030 : Kp [] x0 x9030 := by rw [← hX9030]; exact (Kp.refl [] x0).alloc _
              have RS9030 := RS0.kp kx9030
              have KB9030 := KB0.trans (kx9030.below RS0.hB (fun _ h => by cases h))
              have hcI9030 : x9030.heap[x0.heap.size]? = some (.cells #[.int .i64 en] 3) := by rw [← hX9030]; exact heap_alloc_new x0 _
              have lt9030 : x0.heap.size < x9030.heap.size := by rw [← hX9030]; simp
              have ne9030 : kv3.ownBlock = some x0.heap.size → False := fun h => Nat.lt_irrefl _ (RS0.ltS _ h).2
              clear hX9030
              refine hK _ _ (fun _ => (SF.out x9030 KB9030)) ?_
              clear hK K
              try simp only [List.getElem_toArray, List.getElem_cons_succ, List.getElem_cons_zero, Act.put, List.setIfInBounds_toArray, List.set_cons_zero, List.set_cons_succ]
              refine wpAnyM_one (i := 7) (by kernel_rfl) rfl (fun K hK => ?_)
              try simp only [List.getElem_toArray, List.getElem_cons_succ, List.getElem_cons_zero]
              go_simp
              generalize hX9031 : World.alloc _ _ = x9031
              have kx9031 : Kp [] x9030 x9031 := by rw [← hX9031]; exact (Kp.refl [] x9030).alloc _
              have RS9031 := RS9030.kp kx9031
              have KB9031 := KB9030.trans (kx9031.below RS9030.hB (fun _ h => by cases h))
              have hcS9031 : x9031.heap[x9030.heap.size]? = some (.cells #[.string ek] 9) := by rw [← hX9031]; exact heap_alloc_new x9030 _
              have lt9031 : x9030.heap.size < x9031.heap.size := by rw [← hX9031]; simp
              have hcI9030b := (kx9031.block _ lt9030 (fun h => by cases h)).trans hcI9030
              have lt9030b := Nat.lt_of_lt_of_le lt9030 kx9031.size
              clear hX9031
              refine hK _ _ (fun _ => (SF.out x9031 KB9031)) ?_
              clear hK K
              try simp only [List.getElem_toArray, List.getElem_cons_succ, List.getElem_cons_zero, Act.put, List.setIfInBounds_toArray, List.set_cons_zero, List.set_cons_succ]
              refine wpAnyM_one (i := 8) (by kernel_rfl) rfl (fun K hK => ?_)
              try simp only [List.getElem_toArray, List.getElem_cons_succ, List.getElem_cons_zero]
              refine Eq.mpr (if_pos rfl) ?_
              refine wp_append_lies _ _ _ _ (by rfl) (n0 + 4) 9 i0 _ 1 16 Try.underlying27 Hi0.out hz0 hz1 hz2 rfl (by decide) kv3 ks.length (ks.map Value.string) (by rfl) RS9031.ok ⟨x9030.heap.size, 0, none⟩ 1 1 [.string ek] (by rfl) (by rfl) (World.news_of_block (cs := #[.string ek]) (t := 9) (fr := (0, 0)) hcS9031) (by intro u hu; simp at hu; subst hu; rfl) (by decide) hn1 hn2 RS9031.hB _ rfl ?_
              intro gg9032 cap9032 x9032 hv9032 hgr9032 hat9032 hlt9032
              have RS9032 := RS9031.growS hv9032 hgr9032 hat9032
              have KB9032 := KB9031.grown hgr9032 RS9031.hB (fun j hj => (RS9031.ltS j hj).1)
              have hcI9030bc := (hgr9032.block _ lt9030b (fun e => ne9030 e.symm)).trans hcI9030b
              have lt9030bc := Nat.lt_of_lt_of_le lt9030b hgr9032.size
              clear hv9032 hgr9032 hat9032 hlt9032
              refine hK _ _ (fun _ => (SF.out x9032 KB9032)) ?_
              clear hK K
              try simp only [List.getElem_toArray, List.getElem_cons_succ, List.getElem_cons_zero, Act.put, List.setIfInBounds_toArray, List.set_cons_zero, List.set_cons_succ]
              refine wpAnyM_takeY (i := 18) (v := ?v9033) rfl (by kernel_rfl) (by kernel_rfl) (by kernel_rfl) (fun _ _ _ h => h) (by decide) (Or.inl ⟨by rfl, ?hy9033⟩) (fun _ => (SF.out x9032 KB9032)) ?rest9033
              case hy9033 => (intro w; go_simp; first | done | with_reducible rfl)
              try simp only [List.getElem_toArray, List.getElem_cons_succ, List.getElem_cons_zero, Act.put, List.setIfInBounds_toArray, List.set_cons_zero, List.set_cons_succ]
              refine wpAnyM_one (i := 17) (by kernel_rfl) rfl (fun K hK => ?_)
              try simp only [List.getElem_toArray, List.getElem_cons_succ, List.getElem_cons_zero]
              refine Eq.mpr (if_pos rfl) ?_
              refine wp_append_lies _ _ _ _ (by rfl) (n0 + 4) 3 j0 _ 1 8 Try.underlying28 Hj0.out jz0 jz1 jz2 rfl (by decide) nv3 ns.length (ns.map intV) (by rfl) RS9032.on ⟨x0.heap.size, 0, none⟩ 1 1 [.int .i64 en] (by rfl) (by rfl) (World.news_of_block (cs := #[.int .i64 en]) (t := 3) (fr := (0, 0)) hcI9030bc) (by intro u hu; simp at hu; subst hu; rfl) (by decide) hm1 hm2 RS9032.hB _ rfl ?_
              intro gg9034 cap9034 x9034 hv9034 hgr9034 hat9034 hlt9034
              have RS9034 := RS9032.growI hv9034 hgr9034 hat9034
              have KB9034 := KB9032.grown hgr9034 RS9032.hB (fun j hj => (RS9032.ltI j hj).1)
              clear hv9034 hgr9034 hat9034 hlt9034
              refine hK _ _ (fun _ => (SF.out x9034 KB9034)) ?_
              clear hK K
              try simp only [List.getElem_toArray, List.getElem_cons_succ, List.getElem_cons_zero, Act.put, List.setIfInBounds_toArray, List.set_cons_zero, List.set_cons_succ]
              refine wpAnyM_one (i := 19) (by kernel_rfl) rfl (fun K hK => ?_)
              try simp only [List.getElem_toArray, List.getElem_cons_succ, List.getElem_cons_zero]
              have e0 : x9034.cell? ⟨n0 + 3, 0, none⟩ = some kv3 := (SF.out x9034 KB9034).1
              have e1 : x9034.cell? ⟨n0 + 3, 1, none⟩ = some nv3 := (SF.out x9034 KB9034).2.1
              have g0 : x9034.frozen? ⟨n0 + 3, 0, none⟩ = false := FZ.out x9034 KB9034 0
              have g1 : x9034.frozen? ⟨n0 + 3, 1, none⟩ = false := FZ.out x9034 KB9034 1
              go_simp
              refine hK _ _ (fun h => absurd h (by decide)) ?_
              clear hK K
              try simp only [List.getElem_toArray, List.getElem_cons_succ, List.getElem_cons_zero, Act.put, List.setIfInBounds_toArray, List.set_cons_zero, List.set_cons_succ]
              refine wpAnyM_takeY (i := 20) (v := ?v9036) rfl (by kernel_rfl) (by kernel_rfl) (by kernel_rfl) (fun _ _ _ h => h) (by decide) (Or.inl ⟨by rfl, ?hy9036⟩) (fun h => absurd h (by decide)) ?rest9036
              case hy9036 => (intro w; go_simp; first | done | with_reducible rfl)
              try simp only [List.getElem_toArray, List.getElem_cons_succ, List.getElem_cons_zero, Act.put, List.setIfInBounds_toArray, List.set_cons_zero, List.set_cons_succ]
              refine wpAnyM_one (i := 21) (by kernel_rfl) rfl (fun K hK => ?_)
              try simp only [List.getElem_toArray, List.getElem_cons_succ, List.getElem_cons_zero]
              go_simp
              refine hK _ _ (fun h => absurd h (by decide)) ?_
              clear hK K
              try simp only [List.getElem_toArray, List.getElem_cons_succ, List.getElem_cons_zero, Act.put, List.setIfInBounds_toArray, List.set_cons_zero, List.set_cons_succ]
              refine wpAnyM_done (by kernel_rfl) ?_ _
              have D9 : Hid (DnSt n0 y _ _ _ k n del _ _ (out2 ++ [(ek, en)])) := D0x.out.stored KB9034 (e := (ek, en)) (by rw [← HKS.out, ← HNS.out]; exact RS9034)
              go_wp2_with fail
              go_roundw
              case rel => exact ⟨q + 1, ff || ins, _, _, _, Hlt.out, by go_num, rfl, ⟨HFq.out.symm, by have := HO2.out.1; simp; omega⟩, D9⟩
              case measure => have := Hlt.out; simp [intOf]; omega
    · have l1 : decide ((q : Int) < (z : Int)) = false := by simpa using hlt
      have l1' : decide (q < z) = false := by simpa using hlt
      obtain rfl : q = z := by omega
      clear hlt
      have HEE : Hid (∀ x, Below (n0 + 3) y x → x.cell? ⟨n0 + 2, 0, none⟩ = some (.slice none 0 0) ∧ x.cell? ⟨n0 + 2, 1, none⟩ = some (.slice none 0 0) ∧ ∀ o, x.frozen? ⟨n0 + 2, o, none⟩ = false) := fun x K =>
        ⟨(World.cell?_of_block (w := y) (K.block (n0 + 2) (by omega))).trans D0.out.2.2.1, (World.cell?_of_block (w := y) (K.block (n0 + 2) (by omega))).trans D0.out.2.2.2.1, fun o => (World.frozen?_of_block (w := y) (K.block (n0 + 2) (by omega))).trans (D0.out.2.2.2.2 o)⟩
      have HE : Hid (wr.cell? ⟨n0 + 2, 0, none⟩ = some (.slice none 0 0) ∧ wr.cell? ⟨n0 + 2, 1, none⟩ = some (.slice none 0 0) ∧ ∀ o, wr.frozen? ⟨n0 + 2, o, none⟩ = false) :=
        ⟨(World.cell?_of_block (w := y) (HD.out.dn.kb.block (n0 + 2) (by omega))).trans D0.out.2.2.1, (World.cell?_of_block (w := y) (HD.out.dn.kb.block (n0 + 2) (by omega))).trans D0.out.2.2.2.1, fun o => (World.frozen?_of_block (w := y) (HD.out.dn.kb.block (n0 + 2) (by omega))).trans (D0.out.2.2.2.2 o)⟩
      cases ff
      · go_wp2_with fail
        obtain ⟨ks, hks⟩ : ∃ ks, ks = out.map (·.1) := ⟨_, rfl⟩
        obtain ⟨ns, hns⟩ : ∃ ns, ns = out.map (·.2) := ⟨_, rfl⟩
        have hkl : ks.length = out.length := by rw [hks, List.length_map]
        have hnl : ns.length = out.length := by rw [hns, List.length_map]
        have hol : out.length ≤ 2001 := by have := HF.out.2; omega
        have hn1 : ks.length + 1 ≤ maxLen := by unfold maxLen; omega
        have hn2 : (ks.length + 1) * 16 ≤ 140737488355328 := by omega
        have hm1 : ns.length + 1 ≤ maxLen := by unfold maxLen; omega
        have hm2 : (ns.length + 1) * 8 ≤ 140737488355328 := by omega
        have HKS := Lib.hid hks
        have HNS := Lib.hid hns
        obtain ⟨i0, hi0, hz0, hz1, hz2⟩ := info_parts strInfo
        obtain ⟨j0, hj0, jz0, jz1, jz2⟩ := info_parts intInfo
        have Hi0 := Lib.hid hi0
        have Hj0 := Lib.hid hj0
        clear hks hns hkl hnl hol hi0 hj0
        refine wp_region_M (Sg n0 kv nv k n) 13 (by kernel_rfl) ?_
        generalize hX : World.drew _ = x0
        have kx0 : Kp [] wr x0 := by rw [← hX]; first | exact (Kp.refl [] wr).drew | exact ((Kp.refl [] wr).drewN _).drew
        have D0x := Lib.hid (HD.out.kp kx0)
        have SF : Hid (∀ X, Below (n0 + 4) x0 X → Sg n0 kv nv k n X) := fun X K => dS D0x.out K
        have FZ : Hid (∀ X, Below (n0 + 4) x0 X → ∀ o, X.frozen? ⟨n0 + 3, o, none⟩ = false) := fun X K o => (World.frozen?_of_block (w := x0) (K.block (n0 + 3) (by omega))).trans (D0x.out.dn.fz o)
        have RS0 : RS (n0 + 4) x0 kv nv ks ns := by rw [HKS.out, HNS.out]; exact D0x.out.dn.rs
        have KB0 := Below.refl (n0 + 4) x0
        have hS0 := SF.out x0 KB0
        clear hX
        refine wpAnyM_takeY (i := 0) (v := ?v11001) rfl (by kernel_rfl) (by kernel_rfl) (by kernel_rfl) (fun _ _ _ h => h) (by decide) (Or.inl ⟨by rfl, ?hy11001⟩) (fun _ => hS0) ?rest11001
        case hy11001 => (intro w; go_simp; first | done | with_reducible rfl)
        try simp only [List.getElem_toArray, List.getElem_cons_succ, List.getElem_cons_zero, Act.put, List.setIfInBounds_toArray, List.set_cons_zero, List.set_cons_succ]
        refine wpAnyM_takeY (i := 2) (v := ?v11002) rfl (by kernel_rfl) (by kernel_rfl) (by kernel_rfl) (fun _ _ _ h => h) (by decide) (Or.inl ⟨by rfl, ?hy11002⟩) (fun _ => hS0) ?rest11002
        case hy11002 => (intro w; go_simp; first | done | with_reducible rfl)
        try simp only [List.getElem_toArray, List.getElem_cons_succ, List.getElem_cons_zero, Act.put, List.setIfInBounds_toArray, List.set_cons_zero, List.set_cons_succ]
        refine wpAnyM_takeY (i := 6) (v := ?v11003) rfl (by kernel_rfl) (by kernel_rfl) (by kernel_rfl) (fun _ _ _ h => h) (by decide) (Or.inl ⟨by rfl, ?hy11003⟩) (fun _ => hS0) ?rest11003
        case hy11003 => (intro w; go_simp; first | done | with_reducible rfl)
        try simp only [List.getElem_toArray, List.getElem_cons_succ, List.getElem_cons_zero, Act.put, List.setIfInBounds_toArray, List.set_cons_zero, List.set_cons_succ]
        refine wpAnyM_takeY (i := 8) (v := ?v11004) rfl (by kernel_rfl) (by kernel_rfl) (by kernel_rfl) (fun _ _ _ h => h) (by decide) (Or.inl ⟨by rfl, ?hy11004⟩) (fun _ => hS0) ?rest11004
        case hy11004 => (intro w; go_simp; first | done | with_reducible rfl)
        try simp only [List.getElem_toArray, List.getElem_cons_succ, List.getElem_cons_zero, Act.put, List.setIfInBounds_toArray, List.set_cons_zero, List.set_cons_succ]
        refine wpAnyM_takeC (i := 1) (c := 1) (r := []) (v := ?v11005) rfl (by kernel_rfl) (by kernel_rfl) (by kernel_rfl) (fun _ _ _ h => h) (by decide) (by kernel_rfl) rfl (by kernel_rfl) (by kernel_rfl) (Or.inl ⟨by rfl, ?hy11005⟩) hS0 ?rest11005
        case hy11005 => (intro w hS; obtain ⟨s1, s2, s3, s4⟩ := hS; go_simp; first | done | with_reducible rfl)
        try simp only [List.getElem_toArray, List.getElem_cons_succ, List.getElem_cons_zero, Act.put, List.setIfInBounds_toArray, List.set_cons_zero, List.set_cons_succ]
        refine wpAnyM_takeC (i := 3) (c := 3) (r := []) (v := ?v11006) rfl (by kernel_rfl) (by kernel_rfl) (by kernel_rfl) (fun _ _ _ h => h) (by decide) (by kernel_rfl) rfl (by kernel_rfl) (by kernel_rfl) (Or.inl ⟨by rfl, ?hy11006⟩) hS0 ?rest11006
        case hy11006 => (intro w hS; obtain ⟨s1, s2, s3, s4⟩ := hS; go_simp; first | done | with_reducible rfl)
        try simp only [List.getElem_toArray, List.getElem_cons_succ, List.getElem_cons_zero, Act.put, List.setIfInBounds_toArray, List.set_cons_zero, List.set_cons_succ]
        refine wpAnyM_takeC (i := 7) (c := 7) (r := []) (v := ?v11007) rfl (by kernel_rfl) (by kernel_rfl) (by kernel_rfl) (fun _ _ _ h => h) (by decide) (by kernel_rfl) rfl (by kernel_rfl) (by kernel_rfl) (Or.inl ⟨by rfl, ?hy11007⟩) hS0 ?rest11007
        case hy11007 => (intro w hS; obtain ⟨s1, s2, s3, s4⟩ := hS; go_simp; first | done | with_reducible rfl)
        try simp only [List.getElem_toArray, List.getElem_cons_succ, List.getElem_cons_zero, Act.put, List.setIfInBounds_toArray, List.set_cons_zero, List.set_cons_succ]
        refine wpAnyM_takeC (i := 9) (c := 11) (r := [10, 9]) (v := ?v11008) rfl (by kernel_rfl) (by kernel_rfl) (by kernel_rfl) (fun _ _ _ h => h) (by decide) (by kernel_rfl) rfl (by kernel_rfl) (by kernel_rfl) (Or.inl ⟨by rfl, ?hy11008⟩) hS0 ?rest11008
        case hy11008 => (intro w hS; obtain ⟨s1, s2, s3, s4⟩ := hS; go_simp; first | done | with_reducible rfl)
        try simp only [List.getElem_toArray, List.getElem_cons_succ, List.getElem_cons_zero, Act.put, List.setIfInBounds_toArray, List.set_cons_zero, List.set_cons_succ]
        refine wpAnyM_two (i := 4) (j := 10) (by kernel_rfl) rfl rfl (fun K hK => ?_) (fun K hK => ?_)
        ·
          try simp only [List.getElem_toArray, List.getElem_cons_succ, List.getElem_cons_zero]
          go_simp
          generalize hX11009 : World.alloc _ _ = x11009
          have kx11009 : Kp [] x0 x11009 := by rw [← hX11009]; exact (Kp.refl [] x0).alloc _
          have RS11009 := RS0.kp kx11009
          have KB11009 := KB0.trans (kx11009.below RS0.hB (fun _ h => by cases h))
          have hcS11009 : x11009.heap[x0.heap.size]? = some (.cells #[.string k] 9) := by rw [← hX11009]; exact heap_alloc_new x0 _
          have lt11009 : x0.heap.size < x11009.heap.size := by rw [← hX11009]; simp
          clear hX11009
          refine hK _ _ (fun _ => (SF.out x11009 KB11009)) ?_
          clear hK K
          try simp only [List.getElem_toArray, List.getElem_cons_succ, List.getElem_cons_zero, Act.put, List.setIfInBounds_toArray, List.set_cons_zero, List.set_cons_succ]
          refine wpAnyM_two (i := 5) (j := 10) (by kernel_rfl) rfl rfl (fun K hK => ?_) (fun K hK => ?_)
          ·
            try simp only [List.getElem_toArray, List.getElem_cons_succ, List.getElem_cons_zero]
            refine Eq.mpr (if_pos rfl) ?_
            refine wp_append_lies _ _ _ _ (by rfl) (n0 + 4) 9 i0 _ 1 16 Try.underlying27 Hi0.out hz0 hz1 hz2 rfl (by decide) kv ks.length (ks.map Value.string) (by rfl) RS11009.ok ⟨x0.heap.size, 0, none⟩ 1 1 [.string k] (by rfl) (by rfl) (World.news_of_block (cs := #[.string k]) (t := 9) (fr := (0, 0)) hcS11009) (by intro u hu; simp at hu; subst hu; rfl) (by decide) hn1 hn2 RS11009.hB _ rfl ?_
            intro gg11010 cap11010 x11010 hv11010 hgr11010 hat11010 hlt11010
            have RS11010 := RS11009.growS hv11010 hgr11010 hat11010
            have KB11010 := KB11009.grown hgr11010 RS11009.hB (fun j hj => (RS11009.ltS j hj).1)
            clear hv11010 hgr11010 hat11010 hlt11010
            refine hK _ _ (fun _ => (SF.out x11010 KB11010)) ?_
            clear hK K
            try simp only [List.getElem_toArray, List.getElem_cons_succ, List.getElem_cons_zero, Act.put, List.setIfInBounds_toArray, List.set_cons_zero, List.set_cons_succ]
            refine wpAnyM_takeY (i := 12) (v := ?v11011) rfl (by kernel_rfl) (by kernel_rfl) (by kernel_rfl) (fun _ _ _ h => h) (by decide) (Or.inl ⟨by rfl, ?hy11011⟩) (fun _ => (SF.out x11010 KB11010)) ?rest11011
            case hy11011 => (intro w; go_simp; first | done | with_reducible rfl)
            try simp only [List.getElem_toArray, List.getElem_cons_succ, List.getElem_cons_zero, Act.put, List.setIfInBounds_toArray, List.set_cons_zero, List.set_cons_succ]
            refine wpAnyM_one (i := 10) (by kernel_rfl) rfl (fun K hK => ?_)
            try simp only [List.getElem_toArray, List.getElem_cons_succ, List.getElem_cons_zero]
            go_simp
            generalize hX11012 : World.alloc _ _ = x11012
            have kx11012 : Kp [] x11010 x11012 := by rw [← hX11012]; exact (Kp.refl [] x11010).alloc _
            have RS11012 := RS11010.kp kx11012
            have KB11012 := KB11010.trans (kx11012.below RS11010.hB (fun _ h => by cases h))
            have hcI11012 : x11012.heap[x11010.heap.size]? = some (.cells #[.int .i64 n] 3) := by rw [← hX11012]; exact heap_alloc_new x11010 _
            have lt11012 : x11010.heap.size < x11012.heap.size := by rw [← hX11012]; simp
            have ne11012 : (Value.slice (some ⟨gg11010, 0, none⟩) (ks.length + 1) cap11010).ownBlock = some x11010.heap.size → False := fun h => Nat.lt_irrefl _ (RS11010.ltS _ h).2
            clear hX11012
            refine hK _ _ (fun _ => (SF.out x11012 KB11012)) ?_
            clear hK K
            try simp only [List.getElem_toArray, List.getElem_cons_succ, List.getElem_cons_zero, Act.put, List.setIfInBounds_toArray, List.set_cons_zero, List.set_cons_succ]
            refine wpAnyM_one (i := 11) (by kernel_rfl) rfl (fun K hK => ?_)
            try simp only [List.getElem_toArray, List.getElem_cons_succ, List.getElem_cons_zero]
            refine Eq.mpr (if_pos rfl) ?_
            refine wp_append_lies _ _ _ _ (by rfl) (n0 + 4) 3 j0 _ 1 8 Try.underlying28 Hj0.out jz0 jz1 jz2 rfl (by decide) nv ns.length (ns.map intV) (by rfl) RS11012.on ⟨x11010.heap.size, 0, none⟩ 1 1 [.int .i64 n] (by rfl) (by rfl) (World.news_of_block (cs := #[.int .i64 n]) (t := 3) (fr := (0, 0)) hcI11012) (by intro u hu; simp at hu; subst hu; rfl) (by decide) hm1 hm2 RS11012.hB _ rfl ?_
            intro gg11013 cap11013 x11013 hv11013 hgr11013 hat11013 hlt11013
            have RS11013 := RS11012.growI hv11013 hgr11013 hat11013
            have KB11013 := KB11012.grown hgr11013 RS11012.hB (fun j hj => (RS11012.ltI j hj).1)
            clear hv11013 hgr11013 hat11013 hlt11013
            refine hK _ _ (fun _ => (SF.out x11013 KB11013)) ?_
            clear hK K
            try simp only [List.getElem_toArray, List.getElem_cons_succ, List.getElem_cons_zero, Act.put, List.setIfInBounds_toArray, List.set_cons_zero, List.set_cons_succ]
            refine wpAnyM_one (i := 13) (by kernel_rfl) rfl (fun K hK => ?_)
            try simp only [List.getElem_toArray, List.getElem_cons_succ, List.getElem_cons_zero]
            have e0 : x11013.cell? ⟨n0 + 3, 0, none⟩ = some kv := (SF.out x11013 KB11013).1
            have e1 : x11013.cell? ⟨n0 + 3, 1, none⟩ = some nv := (SF.out x11013 KB11013).2.1
            have g0 : x11013.frozen? ⟨n0 + 3, 0, none⟩ = false := FZ.out x11013 KB11013 0
            have g1 : x11013.frozen? ⟨n0 + 3, 1, none⟩ = false := FZ.out x11013 KB11013 1
            go_simp
            refine hK _ _ (fun h => absurd h (by decide)) ?_
            clear hK K
            try simp only [List.getElem_toArray, List.getElem_cons_succ, List.getElem_cons_zero, Act.put, List.setIfInBounds_toArray, List.set_cons_zero, List.set_cons_succ]
            refine wpAnyM_takeY (i := 14) (v := ?v11015) rfl (by kernel_rfl) (by kernel_rfl) (by kernel_rfl) (fun _ _ _ h => h) (by decide) (Or.inl ⟨by rfl, ?hy11015⟩) (fun h => absurd h (by decide)) ?rest11015
            case hy11015 => (intro w; go_simp; first | done | with_reducible rfl)
            try simp only [List.getElem_toArray, List.getElem_cons_succ, List.getElem_cons_zero, Act.put, List.setIfInBounds_toArray, List.set_cons_zero, List.set_cons_succ]
            refine wpAnyM_one (i := 15) (by kernel_rfl) rfl (fun K hK => ?_)
            try simp only [List.getElem_toArray, List.getElem_cons_succ, List.getElem_cons_zero]
            go_simp
            refine hK _ _ (fun h => absurd h (by decide)) ?_
            clear hK K
            try simp only [List.getElem_toArray, List.getElem_cons_succ, List.getElem_cons_zero, Act.put, List.setIfInBounds_toArray, List.set_cons_zero, List.set_cons_succ]
            refine wpAnyM_done (by kernel_rfl) ?_ _
            have D9 : Hid (DnSt n0 y _ _ _ k n del (Value.slice (some ⟨gg11010, 0, none⟩) (ks.length + 1) cap11010) (Value.slice (some ⟨gg11013, 0, none⟩) (ns.length + 1) cap11013) (out ++ [(k, n)])) := D0x.out.stored KB11013 (e := (k, n)) (by rw [← HKS.out, ← HNS.out]; exact RS11013)
            have t0 := D9.out.dn.t0
            have t1 := D9.out.dn.t1
            have r0 := (HEE.out _ D9.out.dn.kb).1
            have r1 := (HEE.out _ D9.out.dn.kb).2.1
            have f0 := (HEE.out _ D9.out.dn.kb).2.2 0
            have f1 := (HEE.out _ D9.out.dn.kb).2.2 1
            go_wp2_with fail
            exact done_end D0.out.1 HN0.out D9.out (done_all HF.out.1 HZ.out HR.out) r0 r1 rfl rfl
          ·
            try simp only [List.getElem_toArray, List.getElem_cons_succ, List.getElem_cons_zero]
            go_simp
            generalize hX11017 : World.alloc _ _ = x11017
            have kx11017 : Kp [] x11009 x11017 := by rw [← hX11017]; exact (Kp.refl [] x11009).alloc _
            have RS11017 := RS11009.kp kx11017
            have KB11017 := KB11009.trans (kx11017.below RS11009.hB (fun _ h => by cases h))
            have hcI11017 : x11017.heap[x11009.heap.size]? = some (.cells #[.int .i64 n] 3) := by rw [← hX11017]; exact heap_alloc_new x11009 _
            have lt11017 : x11009.heap.size < x11017.heap.size := by rw [← hX11017]; simp
            have ne11017 : kv.ownBlock = some x11009.heap.size → False := fun h => Nat.lt_irrefl _ (RS11009.ltS _ h).2
            have hcS11009b := (kx11017.block _ lt11009 (fun h => by cases h)).trans hcS11009
            have lt11009b := Nat.lt_of_lt_of_le lt11009 kx11017.size
            clear hX11017
            refine hK _ _ (fun _ => (SF.out x11017 KB11017)) ?_
            clear hK K
            try simp only [List.getElem_toArray, List.getElem_cons_succ, List.getElem_cons_zero, Act.put, List.setIfInBounds_toArray, List.set_cons_zero, List.set_cons_succ]
            refine wpAnyM_one (i := 5) (by kernel_rfl) rfl (fun K hK => ?_)
            try simp only [List.getElem_toArray, List.getElem_cons_succ, List.getElem_cons_zero]
            refine Eq.mpr (if_pos rfl) ?_
            refine wp_append_lies _ _ _ _ (by rfl) (n0 + 4) 9 i0 _ 1 16 Try.underlying27 Hi0.out hz0 hz1 hz2 rfl (by decide) kv ks.length (ks.map Value.string) (by rfl) RS11017.ok ⟨x0.heap.size, 0, none⟩ 1 1 [.string k] (by rfl) (by rfl) (World.news_of_block (cs := #[.string k]) (t := 9) (fr := (0, 0)) hcS11009b) (by intro u hu; simp at hu; subst hu; rfl) (by decide) hn1 hn2 RS11017.hB _ rfl ?_
            intro gg11018 cap11018 x11018 hv11018 hgr11018 hat11018 hlt11018
            have RS11018 := RS11017.growS hv11018 hgr11018 hat11018
            have KB11018 := KB11017.grown hgr11018 RS11017.hB (fun j hj => (RS11017.ltS j hj).1)
            have hcI11017c := (hgr11018.block _ lt11017 (fun e => ne11017 e.symm)).trans hcI11017
            have lt11017c := Nat.lt_of_lt_of_le lt11017 hgr11018.size
            clear hv11018 hgr11018 hat11018 hlt11018
            refine hK _ _ (fun _ => (SF.out x11018 KB11018)) ?_
            clear hK K
            try simp only [List.getElem_toArray, List.getElem_cons_succ, List.getElem_cons_zero, Act.put, List.setIfInBounds_toArray, List.set_cons_zero, List.set_cons_succ]
            refine wpAnyM_takeY (i := 12) (v := ?v11019) rfl (by kernel_rfl) (by kernel_rfl) (by kernel_rfl) (fun _ _ _ h => h) (by decide) (Or.inl ⟨by rfl, ?hy11019⟩) (fun _ => (SF.out x11018 KB11018)) ?rest11019
            case hy11019 => (intro w; go_simp; first | done | with_reducible rfl)
            try simp only [List.getElem_toArray, List.getElem_cons_succ, List.getElem_cons_zero, Act.put, List.setIfInBounds_toArray, List.set_cons_zero, List.set_cons_succ]
            refine wpAnyM_one (i := 11) (by kernel_rfl) rfl (fun K hK => ?_)
            try simp only [List.getElem_toArray, List.getElem_cons_succ, List.getElem_cons_zero]
            refine Eq.mpr (if_pos rfl) ?_
            refine wp_append_lies _ _ _ _ (by rfl) (n0 + 4) 3 j0 _ 1 8 Try.underlying28 Hj0.out jz0 jz1 jz2 rfl (by decide) nv ns.length (ns.map intV) (by rfl) RS11018.on ⟨x11009.heap.size, 0, none⟩ 1 1 [.int .i64 n] (by rfl) (by rfl) (World.news_of_block (cs := #[.int .i64 n]) (t := 3) (fr := (0, 0)) hcI11017c) (by intro u hu; simp at hu; subst hu; rfl) (by decide) hm1 hm2 RS11018.hB _ rfl ?_
            intro gg11020 cap11020 x11020 hv11020 hgr11020 hat11020 hlt11020
            have RS11020 := RS11018.growI hv11020 hgr11020 hat11020
            have KB11020 := KB11018.grown hgr11020 RS11018.hB (fun j hj => (RS11018.ltI j hj).1)
            clear hv11020 hgr11020 hat11020 hlt11020
            refine hK _ _ (fun _ => (SF.out x11020 KB11020)) ?_
            clear hK K
            try simp only [List.getElem_toArray, List.getElem_cons_succ, List.getElem_cons_zero, Act.put, List.setIfInBounds_toArray, List.set_cons_zero, List.set_cons_succ]
            refine wpAnyM_one (i := 13) (by kernel_rfl) rfl (fun K hK => ?_)
            try simp only [List.getElem_toArray, List.getElem_cons_succ, List.getElem_cons_zero]
            have e0 : x11020.cell? ⟨n0 + 3, 0, none⟩ = some kv := (SF.out x11020 KB11020).1
            have e1 : x11020.cell? ⟨n0 + 3, 1, none⟩ = some nv := (SF.out x11020 KB11020).2.1
            have g0 : x11020.frozen? ⟨n0 + 3, 0, none⟩ = false := FZ.out x11020 KB11020 0
            have g1 : x11020.frozen? ⟨n0 + 3, 1, none⟩ = false := FZ.out x11020 KB11020 1
            go_simp
            refine hK _ _ (fun h => absurd h (by decide)) ?_
            clear hK K
            try simp only [List.getElem_toArray, List.getElem_cons_succ, List.getElem_cons_zero, Act.put, List.setIfInBounds_toArray, List.set_cons_zero, List.set_cons_succ]
            refine wpAnyM_takeY (i := 14) (v := ?v11022) rfl (by kernel_rfl) (by kernel_rfl) (by kernel_rfl) (fun _ _ _ h => h) (by decide) (Or.inl ⟨by rfl, ?hy11022⟩) (fun h => absurd h (by decide)) ?rest11022
            case hy11022 => (intro w; go_simp; first | done | with_reducible rfl)
            try simp only [List.getElem_toArray, List.getElem_cons_succ, List.getElem_cons_zero, Act.put, List.setIfInBounds_toArray, List.set_cons_zero, List.set_cons_succ]
            refine wpAnyM_one (i := 15) (by kernel_rfl) rfl (fun K hK => ?_)
            try simp only [List.getElem_toArray, List.getElem_cons_succ, List.getElem_cons_zero]
            go_simp
            refine hK _ _ (fun h => absurd h (by decide)) ?_
            clear hK K
            try simp only [List.getElem_toArray, List.getElem_cons_succ, List.getElem_cons_zero, Act.put, List.setIfInBounds_toArray, List.set_cons_zero, List.set_cons_succ]
            refine wpAnyM_done (by kernel_rfl) ?_ _
            have D9 : Hid (DnSt n0 y _ _ _ k n del (Value.slice (some ⟨gg11018, 0, none⟩) (ks.length + 1) cap11018) (Value.slice (some ⟨gg11020, 0, none⟩) (ns.length + 1) cap11020) (out ++ [(k, n)])) := D0x.out.stored KB11020 (e := (k, n)) (by rw [← HKS.out, ← HNS.out]; exact RS11020)
            have t0 := D9.out.dn.t0
            have t1 := D9.out.dn.t1
            have r0 := (HEE.out _ D9.out.dn.kb).1
            have r1 := (HEE.out _ D9.out.dn.kb).2.1
            have f0 := (HEE.out _ D9.out.dn.kb).2.2 0
            have f1 := (HEE.out _ D9.out.dn.kb).2.2 1
            go_wp2_with fail
            exact done_end D0.out.1 HN0.out D9.out (done_all HF.out.1 HZ.out HR.out) r0 r1 rfl rfl
        ·
          try simp only [List.getElem_toArray, List.getElem_cons_succ, List.getElem_cons_zero]
          go_simp
          generalize hX11024 : World.alloc _ _ = x11024
          have kx11024 : Kp [] x0 x11024 := by rw [← hX11024]; exact (Kp.refl [] x0).alloc _
          have RS11024 := RS0.kp kx11024
          have KB11024 := KB0.trans (kx11024.below RS0.hB (fun _ h => by cases h))
          have hcI11024 : x11024.heap[x0.heap.size]? = some (.cells #[.int .i64 n] 3) := by rw [← hX11024]; exact heap_alloc_new x0 _
          have lt11024 : x0.heap.size < x11024.heap.size := by rw [← hX11024]; simp
          have ne11024 : kv.ownBlock = some x0.heap.size → False := fun h => Nat.lt_irrefl _ (RS0.ltS _ h).2
          clear hX11024
          refine hK _ _ (fun _ => (SF.out x11024 KB11024)) ?_
          clear hK K
          try simp only [List.getElem_toArray, List.getElem_cons_succ, List.getElem_cons_zero, Act.put, List.setIfInBounds_toArray, List.set_cons_zero, List.set_cons_succ]
          refine wpAnyM_one (i := 4) (by kernel_rfl) rfl (fun K hK => ?_)
          try simp only [List.getElem_toArray, List.getElem_cons_succ, List.getElem_cons_zero]
          go_simp
          generalize hX11025 : World.alloc _ _ = x11025
          have kx11025 : Kp [] x11024 x11025 := by rw [← hX11025]; exact (Kp.refl [] x11024).alloc _
          have RS11025 := RS11024.kp kx11025
          have KB11025 := KB11024.trans (kx11025.below RS11024.hB (fun _ h => by cases h))
          have hcS11025 : x11025.heap[x11024.heap.size]? = some (.cells #[.string k] 9) := by rw [← hX11025]; exact heap_alloc_new x11024 _
          have lt11025 : x11024.heap.size < x11025.heap.size := by rw [← hX11025]; simp
          have hcI11024b := (kx11025.block _ lt11024 (fun h => by cases h)).trans hcI11024
          have lt11024b := Nat.lt_of_lt_of_le lt11024 kx11025.size
          clear hX11025
          refine hK _ _ (fun _ => (SF.out x11025 KB11025)) ?_
          clear hK K
          try simp only [List.getElem_toArray, List.getElem_cons_succ, List.getElem_cons_zero, Act.put, List.setIfInBounds_toArray, List.set_cons_zero, List.set_cons_succ]
          refine wpAnyM_one (i := 5) (by kernel_rfl) rfl (fun K hK => ?_)
          try simp only [List.getElem_toArray, List.getElem_cons_succ, List.getElem_cons_zero]
          refine Eq.mpr (if_pos rfl) ?_
          refine wp_append_lies _ _ _ _ (by rfl) (n0 + 4) 9 i0 _ 1 16 Try.underlying27 Hi0.out hz0 hz1 hz2 rfl (by decide) kv ks.length (ks.map Value.string) (by rfl) RS11025.ok ⟨x11024.heap.size, 0, none⟩ 1 1 [.string k] (by rfl) (by rfl) (World.news_of_block (cs := #[.string k]) (t := 9) (fr := (0, 0)) hcS11025) (by intro u hu; simp at hu; subst hu; rfl) (by decide) hn1 hn2 RS11025.hB _ rfl ?_
          intro gg11026 cap11026 x11026 hv11026 hgr11026 hat11026 hlt11026
          have RS11026 := RS11025.growS hv11026 hgr11026 hat11026
          have KB11026 := KB11025.grown hgr11026 RS11025.hB (fun j hj => (RS11025.ltS j hj).1)
          have hcI11024bc := (hgr11026.block _ lt11024b (fun e => ne11024 e.symm)).trans hcI11024b
          have lt11024bc := Nat.lt_of_lt_of_le lt11024b hgr11026.size
          clear hv11026 hgr11026 hat11026 hlt11026
          refine hK _ _ (fun _ => (SF.out x11026 KB11026)) ?_
          clear hK K
          try simp only [List.getElem_toArray, List.getElem_cons_succ, List.getElem_cons_zero, Act.put, List.setIfInBounds_toArray, List.set_cons_zero, List.set_cons_succ]
          refine wpAnyM_takeY (i := 12) (v := ?v11027) rfl (by kernel_rfl) (by kernel_rfl) (by kernel_rfl) (fun _ _ _ h => h) (by decide) (Or.inl ⟨by rfl, ?hy11027⟩) (fun _ => (SF.out x11026 KB11026)) ?rest11027
          case hy11027 => (intro w; go_simp; first | done | with_reducible rfl)
          try simp only [List.getElem_toArray, List.getElem_cons_succ, List.getElem_cons_zero, Act.put, List.setIfInBounds_toArray, List.set_cons_zero, List.set_cons_succ]
          refine wpAnyM_one (i := 11) (by kernel_rfl) rfl (fun K hK => ?_)
          try simp only [List.getElem_toArray, List.getElem_cons_succ, List.getElem_cons_zero]
          refine Eq.mpr (if_pos rfl) ?_
          refine wp_append_lies _ _ _ _ (by rfl) (n0 + 4) 3 j0 _ 1 8 Try.underlying28 Hj0.out jz0 jz1 jz2 rfl (by decide) nv ns.length (ns.map intV) (by rfl) RS11026.on ⟨x0.heap.size, 0, none⟩ 1 1 [.int .i64 n] (by rfl) (by rfl) (World.news_of_block (cs := #[.int .i64 n]) (t := 3) (fr := (0, 0)) hcI11024bc) (by intro u hu; simp at hu; subst hu; rfl) (by decide) hm1 hm2 RS11026.hB _ rfl ?_
          intro gg11028 cap11028 x11028 hv11028 hgr11028 hat11028 hlt11028
          have RS11028 := RS11026.growI hv11028 hgr11028 hat11028
          have KB11028 := KB11026.grown hgr11028 RS11026.hB (fun j hj => (RS11026.ltI j hj).1)
          clear hv11028 hgr11028 hat11028 hlt11028
          refine hK _ _ (fun _ => (SF.out x11028 KB11028)) ?_
          clear hK K
          try simp only [List.getElem_toArray, List.getElem_cons_succ, List.getElem_cons_zero, Act.put, List.setIfInBounds_toArray, List.set_cons_zero, List.set_cons_succ]
          refine wpAnyM_one (i := 13) (by kernel_rfl) rfl (fun K hK => ?_)
          try simp only [List.getElem_toArray, List.getElem_cons_succ, List.getElem_cons_zero]
          have e0 : x11028.cell? ⟨n0 + 3, 0, none⟩ = some kv := (SF.out x11028 KB11028).1
          have e1 : x11028.cell? ⟨n0 + 3, 1, none⟩ = some nv := (SF.out x11028 KB11028).2.1
          have g0 : x11028.frozen? ⟨n0 + 3, 0, none⟩ = false := FZ.out x11028 KB11028 0
          have g1 : x11028.frozen? ⟨n0 + 3, 1, none⟩ = false := FZ.out x11028 KB11028 1
          go_simp
          refine hK _ _ (fun h => absurd h (by decide)) ?_
          clear hK K
          try simp only [List.getElem_toArray, List.getElem_cons_succ, List.getElem_cons_zero, Act.put, List.setIfInBounds_toArray, List.set_cons_zero, List.set_cons_succ]
          refine wpAnyM_takeY (i := 14) (v := ?v11030) rfl (by kernel_rfl) (by kernel_rfl) (by kernel_rfl) (fun _ _ _ h => h) (by decide) (Or.inl ⟨by rfl, ?hy11030⟩) (fun h => absurd h (by decide)) ?rest11030
          case hy11030 => (intro w; go_simp; first | done | with_reducible rfl)
          try simp only [List.getElem_toArray, List.getElem_cons_succ, List.getElem_cons_zero, Act.put, List.setIfInBounds_toArray, List.set_cons_zero, List.set_cons_succ]
          refine wpAnyM_one (i := 15) (by kernel_rfl) rfl (fun K hK => ?_)
          try simp only [List.getElem_toArray, List.getElem_cons_succ, List.getElem_cons_zero]
          go_simp
          refine hK _ _ (fun h => absurd h (by decide)) ?_
          clear hK K
          try simp only [List.getElem_toArray, List.getElem_cons_succ, List.getElem_cons_zero, Act.put, List.setIfInBounds_toArray, List.set_cons_zero, List.set_cons_succ]
          refine wpAnyM_done (by kernel_rfl) ?_ _
          have D9 : Hid (DnSt n0 y _ _ _ k n del (Value.slice (some ⟨gg11026, 0, none⟩) (ks.length + 1) cap11026) (Value.slice (some ⟨gg11028, 0, none⟩) (ns.length + 1) cap11028) (out ++ [(k, n)])) := D0x.out.stored KB11028 (e := (k, n)) (by rw [← HKS.out, ← HNS.out]; exact RS11028)
          have t0 := D9.out.dn.t0
          have t1 := D9.out.dn.t1
          have r0 := (HEE.out _ D9.out.dn.kb).1
          have r1 := (HEE.out _ D9.out.dn.kb).2.1
          have f0 := (HEE.out _ D9.out.dn.kb).2.2 0
          have f1 := (HEE.out _ D9.out.dn.kb).2.2 1
          go_wp2_with fail
          exact done_end D0.out.1 HN0.out D9.out (done_all HF.out.1 HZ.out HR.out) r0 r1 rfl rfl
      · have t0 := HD.out.dn.t0
        have t1 := HD.out.dn.t1
        have r0 := HE.out.1
        have r1 := HE.out.2.1
        have f0 := HE.out.2.2 0
        have f1 := HE.out.2.2 1
        obtain ⟨ka, kc, rfl⟩ : ∃ ka kc, kv = .slice ka out.length kc := by
          obtain ⟨b, c, h, _⟩ := own_at HD.out.dn.rs.ok
          exact ⟨b, c, by rw [h, List.length_map]⟩
        obtain ⟨na, nc, rfl⟩ : ∃ na nc, nv = .slice na out.length nc := by
          obtain ⟨b, c, h, _⟩ := ownInts_at HD.out.dn.rs.on
          exact ⟨b, c, by rw [h, List.length_map]⟩
        go_wp2_with fail
        exact done_end D0.out.1 HN0.out HD.out (done_all HF.out.1 HZ.out HR.out) r0 r1 rfl rfl
end Go.Proofs.Ytpocnldljglbgaa
