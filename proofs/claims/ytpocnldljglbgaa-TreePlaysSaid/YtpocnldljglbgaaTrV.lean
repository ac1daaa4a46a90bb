/- The law TreePlays: its rows of maps and of models, plainly. -/
import Derived.Test.YtpocnldljglbgaaTrQ
namespace Go.Proofs.Ytpocnldljglbgaa
open Go.RowKit Tr

/-- A map that was, its model, what both hold. -/
structure El where
  a : Option Addr
  kv : Value
  nv : Value
  L : List En
structure ElAt (w : World) (e : El) : Prop where
  m : MapAt w e.a e.L
  d : ModAt w e.kv e.nv e.L
  n : e.L.length ≤ 100
theorem ElAt.kp {w w2 : World} {e : El} (h : ElAt w e) (K : Kp [] w w2) : ElAt w2 e := ⟨h.m.kp K, h.d.kept K, h.n⟩
/-- A block that no map and no model has: a row of maps, or of models. -/
structure Alien (w : World) (G : Nat) : Prop where
  nos : ∀ s, w.cell? ⟨G, 0, none⟩ ≠ some (.string s)
  noi : ∀ z, w.cell? ⟨G, 0, none⟩ ≠ some (.int .i64 z)
  noh : ∀ p, w.heap[G]? ≠ some (.cells #[.pointer p] 51)
theorem TAt.out {w w2 : World} {G : Nat} (h : Alien w G) (K : Kp [G] w w2) : ∀ {t : Tr} {p : Option Addr}, TAt w t p → TAt w2 t p
  | .nil, _, h => h
  | .node _ _ _ _, _, ⟨g, pl, pr, h1, N, h3, h4⟩ => by
    have hg : g ∉ [G] := fun hm => by
      rw [List.mem_singleton.1 hm] at N
      exact h.nos _ N.c0
    exact ⟨g, pl, pr, h1, ⟨K.lt N.lt, (K.cell (p := ⟨g, 0, none⟩) N.lt hg).trans N.c0, (K.cell (p := ⟨g, 1, none⟩) N.lt hg).trans N.c1, (K.cell (p := ⟨g, 2, none⟩) N.lt hg).trans N.c2, (K.cell (p := ⟨g, 3, none⟩) N.lt hg).trans N.c3, (K.cell (p := ⟨g, 4, none⟩) N.lt hg).trans N.c4, (K.cell (p := ⟨g, 5, none⟩) N.lt hg).trans N.c5⟩, TAt.out h K h3, TAt.out h K h4⟩
theorem MapAt.out {w w2 : World} {G : Nat} (h : Alien w G) (K : Kp [G] w w2) {a : Option Addr} {L : List En} (hm : MapAt w a L) : MapAt w2 a L := by
  obtain ⟨g, p, t, h1, h2, h3, h4, h5, h6, h7⟩ := hm.ex
  have hg : g ∉ [G] := fun hm => by
    rw [List.mem_singleton.1 hm] at h7
    exact h.noh _ h7
  exact ⟨⟨g, p, t, h1, K.lt h2, (K.cell (p := ⟨g, 0, none⟩) h2 hg).trans h3, TAt.out h K h4, h5, h6, (K.block g h2 hg).trans h7⟩, hm.rise⟩
theorem ModAt.out {w w2 : World} {G : Nat} (h : Alien w G) (K : Kp [G] w w2) {kv nv : Value} {L : List En} (hm : ModAt w kv nv L) : ModAt w2 kv nv L := by
  obtain ⟨a, b, c, d, h1, h2, h3, h4, h5, h6⟩ := hm.ex
  refine ⟨a, b, c, d, h1, h2, fun i hi => ?_, fun i hi => ?_, h5, h6⟩
  · obtain ⟨g, o, e1, e2, e3⟩ := h3 i hi
    have hg : g ∉ [G] := fun hm => by
      obtain ⟨g0, o0, f1, f2, f3⟩ := h3 0 (by omega)
      have f4 := h5 _ f1
      simp only at f4
      subst f4
      rw [e1] at f1
      injection f1 with f1
      injection f1 with f1
      rw [← f1, List.mem_singleton.1 hm] at f3
      exact h.nos _ f3
    exact ⟨g, o, e1, K.lt e2, (K.cell (p := ⟨g, o + i, none⟩) e2 hg).trans e3⟩
  · obtain ⟨g, o, e1, e2, e3⟩ := h4 i hi
    have hg : g ∉ [G] := fun hm => by
      obtain ⟨g0, o0, f1, f2, f3⟩ := h4 0 (by omega)
      have f4 := h6 _ f1
      simp only at f4
      subst f4
      rw [e1] at f1
      injection f1 with f1
      injection f1 with f1
      rw [← f1, List.mem_singleton.1 hm] at f3
      exact h.noi _ f3
    exact ⟨g, o, e1, K.lt e2, (K.cell (p := ⟨g, o + i, none⟩) e2 hg).trans e3⟩
theorem ElAt.out {w w2 : World} {G : Nat} (h : Alien w G) (K : Kp [G] w w2) {e : El} (he : ElAt w e) : ElAt w2 e := ⟨he.m.out h K, he.d.out h K, he.n⟩
def ptrsV (Es : List El) : List Value := Es.map fun e => .pointer e.a
def modsV (Es : List El) : List Value := Es.flatMap fun e => [e.kv, e.nv]
theorem modsV_len (Es : List El) : (modsV Es).length = Es.length * 2 := by
  induction Es with
  | nil => rfl
  | cons e Es ih => simp only [modsV, List.flatMap_cons, List.length_append, List.length_cons, List.length_nil] at *; omega
theorem modsV_get (Es : List El) : ∀ (i : Nat) (h : i < Es.length), (modsV Es)[i * 2]? = some (Es[i]).kv ∧ (modsV Es)[i * 2 + 1]? = some (Es[i]).nv := by
  induction Es with
  | nil => intro i h; simp at h
  | cons e Es ih =>
    intro i h
    cases i with
    | zero => exact ⟨rfl, rfl⟩
    | succ j =>
      have := ih j (by simpa using h)
      have e1 : (j + 1) * 2 = j * 2 + 1 + 1 := by omega
      rw [e1]
      exact this
/-- The two rows: of maps, of models. -/
structure RT (B : Nat) (x : World) (tv mv : Value) (n1 n2 : Nat) (ps qs : List Value) : Prop where
  hB : B ≤ x.heap.size
  ot : x.ownsRow B 24 1 tv n1 ps
  om : x.ownsRow B 30 2 mv n2 qs
  ne : ∀ j, tv.ownBlock = some j → mv.ownBlock = some j → False
theorem RT.kp {B : Nat} {x y : World} {tv mv : Value} {n1 n2 : Nat} {ps qs : List Value} (h : RT B x tv mv n1 n2 ps qs) (K : Kp [] x y) : RT B y tv mv n1 n2 ps qs :=
  ⟨Nat.le_trans h.hB K.size, K.owns h.ot (fun _ _ h => by cases h), K.owns h.om (fun _ _ h => by cases h), h.ne⟩
theorem RT.ltS {B : Nat} {x : World} {tv mv : Value} {n1 n2 : Nat} {ps qs : List Value} (h : RT B x tv mv n1 n2 ps qs) : ∀ j, tv.ownBlock = some j → B ≤ j ∧ j < x.heap.size := World.ownsRow.lt h.ot
theorem RT.ltI {B : Nat} {x : World} {tv mv : Value} {n1 n2 : Nat} {ps qs : List Value} (h : RT B x tv mv n1 n2 ps qs) : ∀ j, mv.ownBlock = some j → B ≤ j ∧ j < x.heap.size := World.ownsRow.lt h.om
theorem RT.growS {B : Nat} {x y : World} {tv mv : Value} {n1 n2 : Nat} {ps qs : List Value} (h : RT B x tv mv n1 n2 ps qs) {v : Value} {gg cap : Nat} (ho : y.ownsRow B 24 1 (.slice (some ⟨gg, 0, none⟩) (n1 + 1) cap) (n1 + 1) (ps ++ [v]))
    (hg : x.grownBy y tv.ownBlock) (hat : tv.ownBlock = some gg ∨ gg = x.heap.size) : RT B y (.slice (some ⟨gg, 0, none⟩) (n1 + 1) cap) mv (n1 + 1) n2 (ps ++ [v]) qs := by
  refine ⟨Nat.le_trans h.hB hg.size, ho, (kp_grown hg).owns h.om (fun j hj hm => h.ne j (by simpa using hm) hj), fun j hj hn => ?_⟩
  have e : gg = j := by simpa [Value.ownBlock] using hj
  subst e
  rcases hat with h1 | h1
  · exact h.ne gg h1 hn
  · have := (World.ownsRow.lt h.om gg hn).2; omega
theorem RT.growI {B : Nat} {x y : World} {tv mv : Value} {n1 n2 : Nat} {ps qs : List Value} (h : RT B x tv mv n1 n2 ps qs) {v u : Value} {gg cap : Nat} (ho : y.ownsRow B 30 2 (.slice (some ⟨gg, 0, none⟩) (n2 + 1) cap) (n2 + 1) (qs ++ [v, u]))
    (hg : x.grownBy y mv.ownBlock) (hat : mv.ownBlock = some gg ∨ gg = x.heap.size) : RT B y tv (.slice (some ⟨gg, 0, none⟩) (n2 + 1) cap) n1 (n2 + 1) ps (qs ++ [v, u]) := by
  refine ⟨Nat.le_trans h.hB hg.size, (kp_grown hg).owns h.ot (fun j hj hm => h.ne j hj (by simpa using hm)), ho, fun j hj hn => ?_⟩
  have e : gg = j := by simpa [Value.ownBlock] using hn
  subst e
  rcases hat with h1 | h1
  · exact h.ne gg hj h1
  · have := (World.ownsRow.lt h.ot gg hj).2; omega
/-- The law's rows, and all that they hold. -/
structure Pl (B : Nat) (x : World) (tv mv : Value) (Es : List El) : Prop where
  rt : RT B x tv mv Es.length Es.length (ptrsV Es) (modsV Es)
  pos : 0 < Es.length
  all : ∀ e ∈ Es, ElAt x e
theorem Pl.kp {B : Nat} {x y : World} {tv mv : Value} {Es : List El} (h : Pl B x tv mv Es) (K : Kp [] x y) : Pl B y tv mv Es := ⟨h.rt.kp K, h.pos, fun e he => (h.all e he).kp K⟩
theorem Pl.t {B : Nat} {x : World} {tv mv : Value} {Es : List El} (h : Pl B x tv mv Es) : ∃ g c, tv = .slice (some ⟨g, 0, none⟩) Es.length c ∧ g < x.heap.size ∧ (∀ i (hi : i < Es.length), x.cell? ⟨g, i, none⟩ = some (.pointer (Es[i]).a)) ∧ Alien x g := by
  rcases h.rt.ot.2 with ⟨_, h0⟩ | ⟨g, cap, cur, rfl, hb, hg, h1, h2, h3, h4⟩
  · have := h.pos; omega
  · have hc : ∀ i (hi : i < Es.length), x.cell? ⟨g, i, none⟩ = some (.pointer (Es[i]).a) := fun i hi => by
      have h5 : (ptrsV Es)[i]? = some (.pointer (Es[i]).a) := by unfold ptrsV; rw [List.getElem?_map, List.getElem?_eq_getElem hi]; rfl
      rw [← h5, ← h4, List.getElem?_take, if_pos (by omega)]
      simp [World.cell?, hg]
    refine ⟨g, cap, rfl, World.block_lt_of_cell? x _ (hc 0 h.pos), hc, ⟨fun s hs => ?_, fun s hs => ?_, fun p hp => ?_⟩⟩
    · rw [hc 0 h.pos] at hs; cases hs
    · rw [hc 0 h.pos] at hs; cases hs
    · rw [hg] at hp
      injection hp with hp
      injection hp with _ hp _
      revert hp
      decide
theorem Pl.mm {B : Nat} {x : World} {tv mv : Value} {Es : List El} (h : Pl B x tv mv Es) : ∃ g c, mv = .slice (some ⟨g, 0, none⟩) Es.length c ∧ g < x.heap.size ∧ (∀ i (hi : i < Es.length), x.cell? ⟨g, i * 2, none⟩ = some (Es[i]).kv ∧ x.cell? ⟨g, i * 2 + 1, none⟩ = some (Es[i]).nv) ∧ Alien x g := by
  rcases h.rt.om.2 with ⟨_, h0⟩ | ⟨g, cap, cur, rfl, hb, hg, h1, h2, h3, h4⟩
  · have := h.pos; omega
  · have hc : ∀ i (hi : i < Es.length), x.cell? ⟨g, i * 2, none⟩ = some (Es[i]).kv ∧ x.cell? ⟨g, i * 2 + 1, none⟩ = some (Es[i]).nv := fun i hi => by
      obtain ⟨e1, e2⟩ := modsV_get Es i hi
      rw [← e1, ← e2, ← h4, List.getElem?_take, List.getElem?_take, if_pos (by omega), if_pos (by omega)]
      simp [World.cell?, hg]
    have h0 := (hc 0 h.pos).1
    obtain ⟨a, b, c, d, hk, _⟩ := (h.all _ (List.getElem_mem h.pos)).d.ex
    rw [hk] at h0
    refine ⟨g, cap, rfl, World.block_lt_of_cell? x _ h0, hc, ⟨fun s hs => ?_, fun s hs => ?_, fun p hp => ?_⟩⟩
    · have h0 : x.cell? ⟨g, 0, none⟩ = _ := h0
      rw [h0] at hs; cases hs
    · have h0 : x.cell? ⟨g, 0, none⟩ = _ := h0
      rw [h0] at hs; cases hs
    · rw [hg] at hp
      injection hp with hp
      injection hp with _ hp _
      revert hp
      decide
/-- What the two appends leave. -/
theorem Pl.grow {B : Nat} {x y1 y2 y3 y : World} {tv mv tv2 mv2 : Value} {Es : List El} (h : Pl B x tv mv Es) {e : El} (he : ElAt x e) (r : RT B y tv2 mv2 (Es.length + 1) (Es.length + 1) (ptrsV Es ++ [.pointer e.a]) (modsV Es ++ [e.kv, e.nv]))
    (k1 : Kp [] x y1) (g1 : y1.grownBy y2 tv.ownBlock) (k2 : Kp [] y2 y3) (g2 : y3.grownBy y mv.ownBlock) : Pl B y tv2 mv2 (Es ++ [e]) := by
  refine ⟨?_, by simp, ?_⟩
  · have e1 : (Es ++ [e]).length = Es.length + 1 := by simp
    have e2 : ptrsV (Es ++ [e]) = ptrsV Es ++ [.pointer e.a] := by simp [ptrsV]
    have e3 : modsV (Es ++ [e]) = modsV Es ++ [e.kv, e.nv] := by simp [modsV]
    rw [e1, e2, e3]
    exact r
  · have ht : Alien y1 (match tv.ownBlock with | some g => g | none => 0) ∧ tv.ownBlock = some (match tv.ownBlock with | some g => g | none => 0) := by
      obtain ⟨g, c, rfl, _, _, ha⟩ := (h.kp k1).t
      exact ⟨ha, rfl⟩
    have hall1 : ∀ z ∈ Es ++ [e], ElAt y2 z := fun z hz => by
      have hx : ElAt x z := by
        rcases List.mem_append.1 hz with h1 | h1
        · exact h.all z h1
        · rw [List.mem_singleton.1 h1]; exact he
      have kk := kp_grown g1
      rw [ht.2] at kk
      exact (hx.kp k1).out ht.1 kk
    have p2 : Alien y3 (match mv.ownBlock with | some g => g | none => 0) ∧ mv.ownBlock = some (match mv.ownBlock with | some g => g | none => 0) := by
      obtain ⟨g, c, hmv, hlt, hc, ha⟩ := (h.kp k1).mm
      have hne : g ∉ tv.ownBlock.toList := fun hm => h.rt.ne g (by simpa using hm) (by rw [hmv]; rfl)
      have kk : Kp tv.ownBlock.toList y1 y3 := (kp_grown g1).trans (k2.mono (fun _ h => by cases h))
      rw [hmv]
      refine ⟨⟨fun s hs => ha.nos s ?_, fun s hs => ha.noi s ?_, fun p hp => ha.noh p ?_⟩, rfl⟩
      · rw [← kk.cell (p := ⟨g, 0, none⟩) hlt hne]; exact hs
      · rw [← kk.cell (p := ⟨g, 0, none⟩) hlt hne]; exact hs
      · rw [← kk.block g hlt hne]; exact hp
    intro z hz
    have kk := kp_grown g2
    rw [p2.2] at kk
    exact ((hall1 z hz).kp k2).out p2.1 kk
end Go.Proofs.Ytpocnldljglbgaa
