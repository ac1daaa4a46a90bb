/- The law's model, plainly: how it is done, by rounds; and rows that are built beside one another. -/
import Derived.Test.YtpocnldljglbgaaTrM
namespace Go.Proofs.Ytpocnldljglbgaa
open Go.RowKit Tr

/-- One round of done. -/
def stp (k : ByteArray) (n : Int) (s : Bool × List En) (e : En) : Bool × List En :=
  let ins := !s.1 && !decide (klt e.1 k)
  (s.1 || ins, (if ins then s.2 ++ [(k, n)] else s.2) ++ (if e.1 = k then [] else [e]))
def fin (k : ByteArray) (n : Int) (s : Bool × List En) : List En := if s.1 then s.2 else s.2 ++ [(k, n)]
theorem stp_true (k : ByteArray) (n : Int) : ∀ (L : List En) (out : List En), L.foldl (stp k n) (true, out) = (true, out ++ rem k L)
  | [], out => by simp [rem]
  | e :: L, out => by
    rw [List.foldl_cons]
    by_cases h : e.1 = k
    · have h1 : stp k n (true, out) e = (true, out) := by simp [stp, h]
      rw [h1, stp_true k n L out]
      simp [rem, h]
    · have h1 : stp k n (true, out) e = (true, out ++ [e]) := by simp [stp, h]
      rw [h1, stp_true k n L (out ++ [e])]
      simp [rem, h]
theorem rem_above {k : ByteArray} {L : List En} (h : ∀ x ∈ L, klt k x.1) : rem k L = L := List.filter_eq_self.2 fun x hx => by simpa using (klt_ne (h x hx)).symm
theorem stp_false (k : ByteArray) (n : Int) : ∀ (L : List En) (out : List En), Rise L → fin k n (L.foldl (stp k n) (false, out)) = out ++ put k n L
  | [], out, _ => by simp [fin, put]
  | e :: L, out, h => by
    obtain ⟨h1, h2⟩ := List.pairwise_cons.1 h
    rw [List.foldl_cons]
    rcases klt_tri e.1 k with hk | hk | hk
    · have e1 : stp k n (false, out) e = (false, out ++ [e]) := by simp [stp, hk, klt_ne hk]
      rw [e1, stp_false k n L _ h2]
      have e2 : put k n (e :: L) = e :: put k n L := by simp [put, hk, klt_asymm hk]
      rw [e2]
      simp
    · have e1 : stp k n (false, out) e = (true, out ++ [(k, n)]) := by simp [stp, hk, klt_irrefl]
      rw [e1, stp_true]
      have e2 : rem k L = L := rem_above (fun x hx => hk ▸ h1 x hx)
      have e3 : put k n (e :: L) = (k, n) :: L := by
        have := put_same (A := []) (B := L) (e := e) (n := n) (by simpa using h)
        rw [hk] at this
        simpa using this
      rw [e2, e3]
      simp [fin]
    · have e1 : stp k n (false, out) e = (true, out ++ [(k, n)] ++ [e]) := by simp [stp, klt_asymm hk, (klt_ne hk).symm]
      rw [e1, stp_true]
      have e2 : rem k L = L := rem_above (fun x hx => klt_trans hk (h1 x hx))
      have e3 : put k n (e :: L) = (k, n) :: e :: L := by
        have := put_left (A := []) (B := L) (e := e) (k := k) (n := n) (by simpa using h) hk
        simpa [put] using this
      rw [e2, e3]
      simp [fin]
/-- What done tells. -/
def doneL (k : ByteArray) (n : Int) (del : Bool) (L : List En) : List En := if del then rem k L else put k n L
theorem done_fin (k : ByteArray) (n : Int) (del : Bool) {L : List En} (h : Rise L) : fin k n (L.foldl (stp k n) (del, [])) = doneL k n del L := by
  cases del
  · rw [stp_false k n L [] h]; rfl
  · rw [stp_true]; rfl
def numAt (L : List En) (i : Nat) : Int := (L.map (·.2)).getD i 0
theorem numAt_get {L : List En} {i : Nat} (h : i < L.length) : numAt L i = (L[i]).2 := by
  unfold numAt
  rw [List.getD_eq_getElem?_getD, List.getElem?_map, List.getElem?_eq_getElem h]
  rfl
/-- A row of numbers, as it is read. -/
def NumsAt (w : World) (a : Option Addr) (n : Nat) (z : Nat → Int) : Prop :=
  ∀ i, i < n → ∃ g o, a = some ⟨g, o, none⟩ ∧ g < w.heap.size ∧ w.cell? ⟨g, o + i, none⟩ = some (.int .i64 (z i))
theorem NumsAt.kept {w w2 : World} {a : Option Addr} {n : Nat} {z : Nat → Int} (h : NumsAt w a n z) (K : Kp [] w w2) : NumsAt w2 a n z := fun i hi => by
  obtain ⟨g, o, h1, h2, h3⟩ := h i hi
  exact ⟨g, o, h1, K.lt h2, by rw [K.cell0 h2]; exact h3⟩
def intV (z : Int) : Value := .int .i64 z
/-- A row of numbers of one's own. -/
def OwnInts (w : World) (B : Nat) (v : Value) (l : List Int) : Prop := w.ownsRow B 3 1 v l.length (l.map intV)
theorem ownInts_at {w : World} {B : Nat} {v : Value} {l : List Int} (h : OwnInts w B v l) : ∃ b c, v = .slice b l.length c ∧ NumsAt w b l.length (fun i => l.getD i 0) := by
  rcases h.2 with ⟨rfl, h0⟩ | ⟨g, cap, cur, rfl, hb, hg, h1, h2, h3, h4⟩
  · exact ⟨none, 0, by rw [h0], fun i hi => by omega⟩
  · refine ⟨_, cap, rfl, fun i hi => ⟨g, 0, rfl, ?_, ?_⟩⟩
    · rcases Nat.lt_or_ge g w.heap.size with hlt | hge
      · exact hlt
      · rw [Array.getElem?_eq_none hge] at hg; cases hg
    · have h5 : (l.map intV)[i]? = some (.int .i64 (l.getD i 0)) := by
        rw [List.getElem?_map, List.getD_eq_getElem?_getD, List.getElem?_eq_getElem hi]; rfl
      rw [Nat.zero_add, ← h5, ← h4, List.getElem?_take, if_pos (by omega)]
      simp [World.cell?, hg]
/-- A row of texts and a row of numbers of one's own, apart. -/
structure RS (B : Nat) (x : World) (kv nv : Value) (ks : List ByteArray) (ns : List Int) : Prop where
  hB : B ≤ x.heap.size
  ok : OwnStrs x B kv ks
  on : OwnInts x B nv ns
  ne : ∀ j, kv.ownBlock = some j → nv.ownBlock = some j → False
theorem RS.kp {B : Nat} {x y : World} {kv nv : Value} {ks : List ByteArray} {ns : List Int} (h : RS B x kv nv ks ns) (K : Kp [] x y) : RS B y kv nv ks ns :=
  ⟨Nat.le_trans h.hB K.size, K.owns h.ok (fun _ _ h => by cases h), K.owns h.on (fun _ _ h => by cases h), h.ne⟩
theorem kp_grown {x y : World} {v : Value} (hg : x.grownBy y v.ownBlock) : Kp v.ownBlock.toList x y :=
  ⟨hg.os, hg.tape, hg.output, hg.size, fun j hj hn => hg.block j hj (fun e => hn (by simp [← e]))⟩
theorem RS.growS {B : Nat} {x y : World} {kv nv : Value} {ks : List ByteArray} {ns : List Int} (h : RS B x kv nv ks ns) {k : ByteArray} {gg cap : Nat} (ho : y.ownsRow B 9 1 (.slice (some ⟨gg, 0, none⟩) (ks.length + 1) cap) (ks.length + 1) (ks.map Value.string ++ [.string k]))
    (hg : x.grownBy y kv.ownBlock) (hat : kv.ownBlock = some gg ∨ gg = x.heap.size) : RS B y (.slice (some ⟨gg, 0, none⟩) (ks.length + 1) cap) nv (ks ++ [k]) ns := by
  refine ⟨Nat.le_trans h.hB hg.size, own_snoc ho, (kp_grown hg).owns h.on (fun j hj hm => h.ne j (by simpa using hm) hj), fun j hj hn => ?_⟩
  have e : gg = j := by simpa [Value.ownBlock] using hj
  subst e
  rcases hat with h1 | h1
  · exact h.ne gg h1 hn
  · have := (World.ownsRow.lt h.on gg hn).2; omega
theorem RS.growI {B : Nat} {x y : World} {kv nv : Value} {ks : List ByteArray} {ns : List Int} (h : RS B x kv nv ks ns) {z : Int} {gg cap : Nat} (ho : y.ownsRow B 3 1 (.slice (some ⟨gg, 0, none⟩) (ns.length + 1) cap) (ns.length + 1) (ns.map intV ++ [.int .i64 z]))
    (hg : x.grownBy y nv.ownBlock) (hat : nv.ownBlock = some gg ∨ gg = x.heap.size) : RS B y kv (.slice (some ⟨gg, 0, none⟩) (ns.length + 1) cap) ks (ns ++ [z]) := by
  refine ⟨Nat.le_trans h.hB hg.size, (kp_grown hg).owns h.ok (fun j hj hm => h.ne j hj (by simpa using hm)), ?_, fun j hj hn => ?_⟩
  · unfold OwnInts
    rw [List.length_append, List.map_append]
    exact ho
  · have e : gg = j := by simpa [Value.ownBlock] using hn
    subst e
    rcases hat with h1 | h1
    · exact h.ne gg hj h1
    · have := (World.ownsRow.lt h.ok gg hj).2; omega
theorem RS.ltS {B : Nat} {x : World} {kv nv : Value} {ks : List ByteArray} {ns : List Int} (h : RS B x kv nv ks ns) : ∀ j, kv.ownBlock = some j → B ≤ j ∧ j < x.heap.size := World.ownsRow.lt h.ok
theorem RS.ltI {B : Nat} {x : World} {kv nv : Value} {ks : List ByteArray} {ns : List Int} (h : RS B x kv nv ks ns) : ∀ j, nv.ownBlock = some j → B ≤ j ∧ j < x.heap.size := World.ownsRow.lt h.on
/-- What done has at hand within its loop. -/
structure Dn (T : Nat) (w1 x : World) (kv nv : Value) (out : List En) : Prop where
  kb : Below T w1 x
  t0 : x.cell? ⟨T, 0, none⟩ = some kv
  t1 : x.cell? ⟨T, 1, none⟩ = some nv
  fz : ∀ o, x.frozen? ⟨T, o, none⟩ = false
  rs : RS (T + 1) x kv nv (out.map (·.1)) (out.map (·.2))
theorem Dn.kp {T : Nat} {w1 x y : World} {kv nv : Value} {out : List En} (h : Dn T w1 x kv nv out) (K : Kp [] x y) : Dn T w1 y kv nv out := by
  have hT : T < x.heap.size := h.rs.hB
  exact ⟨h.kb.trans (K.below (Nat.le_of_lt hT) (fun _ hx => by cases hx)), (K.cell0 hT).trans h.t0, (K.cell0 hT).trans h.t1, fun o => (K.frozen0 hT).trans (h.fz o), h.rs.kp K⟩
theorem Dn.stored {T : Nat} {w1 x y : World} {kv nv kv2 nv2 : Value} {out : List En} (h : Dn T w1 x kv nv out) (K : Below (T + 1) x y) {e : En} (r : RS (T + 1) y kv2 nv2 (out.map (·.1) ++ [e.1]) (out.map (·.2) ++ [e.2])) :
    Dn T w1 ((y.setCell ⟨T, 0, none⟩ kv2).setCell ⟨T, 1, none⟩ nv2) kv2 nv2 (out ++ [e]) := by
  have c : ∀ o, y.cell? ⟨T, o, none⟩ = x.cell? ⟨T, o, none⟩ := fun o => World.cell?_of_block (w := x) (K.block T (Nat.lt_succ_self T))
  have f : ∀ o, y.frozen? ⟨T, o, none⟩ = x.frozen? ⟨T, o, none⟩ := fun o => World.frozen?_of_block (w := x) (K.block T (Nat.lt_succ_self T))
  have kk : Kp [T] y ((y.setCell ⟨T, 0, none⟩ kv2).setCell ⟨T, 1, none⟩ nv2) := ((Kp.refl [T] y).setCell (.inl (by simp)) _).setCell (.inl (by simp)) _
  have e0 := cell_eq y T 0 kv2 _ ((c 0).trans h.t0)
  have e1 : (y.setCell ⟨T, 0, none⟩ kv2).cell? ⟨T, 1, none⟩ = some nv := (cell_ne y T 0 1 _ (by decide)).trans ((c 1).trans h.t1)
  refine ⟨?_, (cell_ne _ T 1 0 _ (by decide)).trans e0, cell_eq _ T 1 _ _ e1, fun o => by simp [f o, h.fz o], ?_⟩
  · refine (h.kb.trans ⟨K.os, K.tape, K.output, K.size, fun k hk => K.block k (by omega)⟩).trans (kk.below (Nat.le_of_lt r.hB) (fun x hx => by rw [List.mem_singleton.1 hx]; exact Nat.le_refl _))
  · rw [List.map_append, List.map_append]
    exact ⟨by have := r.hB; simpa [World.setCell] using this, kk.owns r.ok (fun g hg hm => by have := (r.ltS g hg).1; have := List.mem_singleton.1 hm; omega), kk.owns r.on (fun g hg hm => by have := (r.ltI g hg).1; have := List.mem_singleton.1 hm; omega), r.ne⟩
end Go.Proofs.Ytpocnldljglbgaa
