/- Contracts of package tree: addKeys. -/
import Derived.Test.YtpocnldljglbgaaTrH
import Derived.OwnWalk
import Derived.Deep.AppendLies
namespace Go.Proofs.Ytpocnldljglbgaa
open Go.RowKit

theorem strInfo : (Try.prog.info? 9).map (fun i => (i.zero, i.size, i.bytes)) = some (some (.string ⟨#[]⟩), 1, 16) := by kernel_rfl
/-- A tree whose blocks all lie below B. -/
def TBe (w : World) (B : Nat) : Tr → Option Addr → Prop
  | .nil, p => p = none
  | .node k n l r, p => ∃ g pl pr, p = some ⟨g, 0, none⟩ ∧ g < B ∧ NdAt w g k n pl pr ((Tr.node k n l r).h : Nat) ((Tr.node k n l r).sz : Nat) ∧ TBe w B l pl ∧ TBe w B r pr
theorem TAt.be {w : World} : ∀ {t : Tr} {p : Option Addr}, TAt w t p → TBe w w.heap.size t p
  | .nil, _, h => h
  | .node _ _ _ _, _, ⟨g, pl, pr, h1, N, h3, h4⟩ => ⟨g, pl, pr, h1, N.lt, N, h3.be, h4.be⟩
theorem NdAt.below {B : Nat} {w w2 : World} {g : Nat} {k : ByteArray} {n : Int} {pl pr : Option Addr} {d s : Int} (h : NdAt w g k n pl pr d s) (K : Below B w w2) (hg : g < B) : NdAt w2 g k n pl pr d s := by
  have c : ∀ o, w2.cell? ⟨g, o, none⟩ = w.cell? ⟨g, o, none⟩ := fun o => World.cell?_of_block (w := w) (K.block g hg)
  exact ⟨Nat.lt_of_lt_of_le h.lt K.size, (c 0).trans h.c0, (c 1).trans h.c1, (c 2).trans h.c2, (c 3).trans h.c3, (c 4).trans h.c4, (c 5).trans h.c5⟩
theorem TBe.below {B : Nat} {w w2 : World} (K : Below B w w2) : ∀ {t : Tr} {p : Option Addr}, TBe w B t p → TBe w2 B t p
  | .nil, _, h => h
  | .node _ _ _ _, _, ⟨g, pl, pr, h1, hg, N, h3, h4⟩ => ⟨g, pl, pr, h1, hg, N.below K hg, h3.below K, h4.below K⟩
theorem TBe.at {w : World} {B : Nat} : ∀ {t : Tr} {p : Option Addr}, TBe w B t p → TAt w t p
  | .nil, _, h => h
  | .node _ _ _ _, _, ⟨g, pl, pr, h1, _, N, h3, h4⟩ => ⟨g, pl, pr, h1, N, h3.at, h4.at⟩
/-- A row of texts of one's own. -/
def OwnStrs (w : World) (B : Nat) (v : Value) (l : List ByteArray) : Prop := w.ownsRow B 9 1 v l.length (l.map Value.string)
theorem own_snoc {w : World} {B : Nat} {v : Value} {M : List ByteArray} {k : ByteArray} (h : w.ownsRow B 9 1 v (M.length + 1) (M.map Value.string ++ [.string k])) : OwnStrs w B v (M ++ [k]) := by
  unfold OwnStrs
  rw [List.length_append, List.map_append]
  exact h
def Tr.keys (t : Tr) : List ByteArray := t.es.map (·.1)
theorem Tr.keys_len (t : Tr) : t.keys.length = t.sz := by unfold Tr.keys; rw [List.length_map, Tr.es_len]
theorem Tr.keys_node (k : ByteArray) (n : Int) (l r : Tr) : (Tr.node k n l r).keys = l.keys ++ k :: r.keys := by simp [Tr.keys, Tr.es]
/-- What a call leaves that may have written behind a row of texts, and answers such a row. -/
structure Gr (w w2 : World) (v v2 : Value) : Prop where
  kp : Kp v.ownBlock.toList w w2
  own : ∀ j, v2.ownBlock = some j → v.ownBlock = some j ∨ w.heap.size ≤ j
theorem Gr.refl (w : World) (v : Value) : Gr w w v v := ⟨Kp.refl _ _, fun _ h => .inl h⟩
theorem Gr.trans {a b c : World} {x y z : Value} (h : Gr a b x y) (k : Gr b c y z) : Gr a c x z :=
  ⟨h.kp.trans2 k.kp (fun j hj => by rcases h.own j (by simpa using hj) with h1 | h1; exact .inl (by simpa using h1); exact .inr h1),
   fun j hj => by
     rcases k.own j hj with h1 | h1
     · exact h.own j h1
     · exact .inr (Nat.le_trans h.kp.size h1)⟩
theorem Gr.pre {a b c : World} {x y : Value} (h : Gr b c x y) (k : Kp [] a b) : Gr a c x y :=
  ⟨(k.mono (fun _ h => by cases h)).trans h.kp, fun j hj => (h.own j hj).imp id (Nat.le_trans k.size)⟩
theorem Gr.below {w w2 : World} {B : Nat} {v v2 : Value} {L : List ByteArray} (h : Gr w w2 v v2) (o : OwnStrs w B v L) (hB : B ≤ w.heap.size) : Below B w w2 :=
  h.kp.below hB (fun j hj => (World.ownsRow.lt o j (by simpa using hj)).1)
theorem Gr.cell {w w2 : World} {B : Nat} {v v2 : Value} {L : List ByteArray} (h : Gr w w2 v v2) {w0 : World} (o : OwnStrs w0 B v L) {g : Nat} (hg : w0.heap.size ≤ g) (hl : g < w.heap.size) : w2.cell? ⟨g, 0, none⟩ = w.cell? ⟨g, 0, none⟩ :=
  h.kp.cell (p := ⟨g, 0, none⟩) hl (fun hm => by have := (World.ownsRow.lt o g (by simpa using hm)).2; omega)
theorem Gr.grown {w w1 w3 : World} {v : Value} {gg H n cap : Nat} (hg : w1.grownBy w3 v.ownBlock) (k : Kp [] w w1) (hat : v.ownBlock = some gg ∨ gg = H) (hH : w.heap.size ≤ H) : Gr w w3 v (.slice (some ⟨gg, 0, none⟩) n cap) :=
  ⟨(k.mono (fun _ h => by cases h)).trans ⟨hg.os, hg.tape, hg.output, hg.size, fun j hj hn => hg.block j hj (fun e => hn (by simp [← e]))⟩, fun j hj => by
    obtain rfl : gg = j := by simpa [Value.ownBlock] using hj
    rcases hat with h | h
    · exact .inl h
    · exact .inr (by omega)⟩
theorem news_one {w : World} {g : Nat} {k : ByteArray} (h : w.cell? ⟨g, 0, none⟩ = some (.string k)) : ∀ j u, [Value.string k][j]? = some u → w.cell? ((⟨g, 0, none⟩ : Addr).add j) = some u := by
  intro j u hj
  match j, hj with
  | 0, hj => simp at hj; subst hj; exact h
  | j + 1, hj => simp at hj
set_option maxHeartbeats 3200000 in
theorem addKeys_any (B : Nat) (t : Tr) : ∀ (w : World) (p : Option Addr) (v : Value) (L : List ByteArray), TBe w B t p → B ≤ w.heap.size → OwnStrs w B v L → L.length + t.sz ≤ 1000000 →
    Calls Try.prog 23 #[.pointer p, v] w fun e w2 => ∃ v2, e = .returned v2 ∧ OwnStrs w2 B v2 (L ++ t.keys) ∧ Gr w w2 v v2 := by
  induction t with
  | nil =>
    intro w p v L hp hB hO hs
    obtain rfl : p = none := hp
    have HO := Lib.hid hO
    clear hO hB hs
    go_enter Try.func23, Try.ntmps23
    go_wp2_with fail
    go_ret
    exact ⟨_, rfl, by rw [show Tr.keys Tr.nil = [] from rfl, List.append_nil]; exact HO.out, Gr.refl _ _⟩
  | node k n l r ihl ihr =>
    intro w p v L hp hB hO hs
    obtain ⟨g, px, py, rfl, hg, N, X, Y⟩ := hp
    have S0 : Hid (∀ W, Below B w W → W.cell? ⟨g, 0, none⟩ = some (.string k) ∧ W.cell? ⟨g, 2, none⟩ = some (.pointer px) ∧ W.cell? ⟨g, 3, none⟩ = some (.pointer py)) :=
      fun W K => ⟨(N.below K hg).c0, (N.below K hg).c2, (N.below K hg).c3⟩
    have s1 : L.length + l.sz ≤ 1000000 := by simp only [Tr.sz] at hs; omega
    have s2 : (L ++ l.keys ++ [k]).length + r.sz ≤ 1000000 := by simp only [Tr.sz] at hs; rw [List.length_append, List.length_append, Tr.keys_len]; simp; omega
    have hn : (L ++ l.keys).length ≤ 1000000 := by simp only [Tr.sz] at hs; rw [List.length_append, Tr.keys_len]; omega
    have J1 : Hid (∀ W, Kp [] w W → OwnStrs W B v L → Calls Try.prog 23 #[.pointer px, v] W fun e w2 => ∃ v2, e = .returned v2 ∧ OwnStrs w2 B v2 (L ++ l.keys) ∧ Gr W w2 v v2) :=
      fun W K O => ihl W px v L (X.below (K.below hB (fun x hx => by cases hx))) (Nat.le_trans hB K.size) O s1
    have J2 : Hid (∀ W v2, Below B w W → OwnStrs W B v2 (L ++ l.keys ++ [k]) → Calls Try.prog 23 #[.pointer py, v2] W fun e w2 => ∃ v3, e = .returned v3 ∧ OwnStrs w2 B v3 (L ++ l.keys ++ [k] ++ r.keys) ∧ Gr W w2 v2 v3) :=
      fun W v2 K O => ihr W py v2 _ (Y.below K) (Nat.le_trans hB K.size) O s2
    have e0 : L ++ (Tr.node k n l r).keys = L ++ l.keys ++ [k] ++ r.keys := by rw [Tr.keys_node]; simp
    rw [e0]
    obtain ⟨i0, hi, hz0, hz1, hz2⟩ := info_parts strInfo
    have Hi := Lib.hid hi
    have HO := Lib.hid hO
    have HO0 : Hid (OwnStrs w.drew B v L) := (Kp.refl [] w).drew.owns hO (fun _ _ h => by cases h)
    have HO1 : Hid (OwnStrs (w.alloc (.cells #[.string k] 9)).drew B v L) := ((Kp.refl [] w).alloc _).drew.owns hO (fun _ _ h => by cases h)
    have HB := Lib.hid hB
    have K0 : Hid (Kp [] w w.drew) := (Kp.refl [] w).drew
    have K0b : Hid (Kp [] w (w.alloc (.cells #[.string k] 9)).drew) := ((Kp.refl [] w).alloc _).drew
    have C0b : Hid ((w.alloc (.cells #[.string k] 9)).drew.cell? ⟨w.heap.size, 0, none⟩ = some (.string k)) := by show (w.alloc (.cells #[.string k] 9)).cell? ⟨w.heap.size, 0, none⟩ = _; rw [World.cell?_alloc_new]; rfl
    have B0 : Hid (Below B w w.drew) := (Below.refl B w).drew
    have B0b : Hid (Below B w (w.alloc (.cells #[.string k] 9)).drew) := ((Below.refl B w).alloc hB _).drew
    obtain ⟨M, hM⟩ : ∃ M, M = L ++ l.keys := ⟨_, rfl⟩
    rw [← hM] at J1 J2 hn ⊢
    have hn1 : M.length + 1 ≤ maxLen := by unfold maxLen; omega
    have hn2 : (M.length + 1) * 16 ≤ 140737488355328 := by omega
    clear ihl ihr hs s1 s2 e0 N X Y hg hO hB hi hM hn
    go_enter Try.func23, Try.ntmps23
    go_wp2_with fail
    go_region_held3 (fun w' => w'.cell? ⟨g, 0, none⟩ = some (.string k) ∧ w'.cell? ⟨g, 2, none⟩ = some (.pointer px) ∧ w'.cell? ⟨g, 3, none⟩ = some (.pointer py))
      (first | exact S0.out _ B0.out | exact S0.out _ B0b.out | exact S0.out _ B1.out | exact S0.out _ (B1.out.alloc (Nat.le_trans HB.out B1.out.size) _) | exact S0.out _ B3.out | exact S0.out _ B4.out)
      (first
      | (go_at_call_of 23 px; refine Calls.mono (J1.out _ K0.out HO0.out) ?_; rintro e w1 ⟨v1, rfl, o1, k1⟩; have G1 := Lib.hid (k1.pre K0.out); have B1 := Lib.hid (G1.out.below HO.out HB.out); have O1 := Lib.hid (show w1.ownsRow B 9 1 v1 M.length (M.map Value.string) from o1); clear k1 o1)
      | (go_at_call_of 23 px; refine Calls.mono (J1.out _ K0b.out HO1.out) ?_; rintro e w1 ⟨v1, rfl, o1, k1⟩; have G1 := Lib.hid (k1.pre K0b.out); have B1 := Lib.hid (G1.out.below HO.out HB.out); have O1 := Lib.hid (show w1.ownsRow B 9 1 v1 M.length (M.map Value.string) from o1); have C1 := Lib.hid ((k1.cell HO.out (Nat.le_refl _) (by simp)).trans C0b.out); clear k1 o1)
      | (have c1 := C1.out; refine step_append_lies _ (by rfl) _ _ _ (by rfl) B 9 i0 _ 1 16 Try.underlying27 Hi.out hz0 hz1 hz2 rfl (by omega) v1 M.length (M.map Value.string) (by rfl) O1.out ⟨w.heap.size, 0, none⟩ 1 1 [.string k] (by rfl) (by rfl) (news_one c1) (by intro u hu; simp at hu; subst hu; rfl) (by omega) hn1 hn2 (by have := B1.out.size; have := HB.out; omega) w1.heap.size rfl ?_; clear c1; intro gg cap w3 hown hgrow hat hlt; have G3 := Lib.hid (G1.out.trans (Gr.grown (n := M.length + 1) (cap := cap) hgrow (Kp.refl [] w1) hat (Nat.le_refl _))); have B3 := Lib.hid (G3.out.below HO.out HB.out); have O3 : Hid (OwnStrs w3 B (.slice (some ⟨gg, 0, none⟩) (M.length + 1) cap) (M ++ [k])) := own_snoc hown; clear hown hgrow hat hlt)
      | (refine step_append_lies _ (by rfl) _ _ _ (by rfl) B 9 i0 _ 1 16 Try.underlying27 Hi.out hz0 hz1 hz2 rfl (by omega) v1 M.length (M.map Value.string) (by rfl) (O1.out.alloc _) ⟨w1.heap.size, 0, none⟩ 1 1 [.string k] (by rfl) (by rfl) (World.news_of_block (cs := #[.string k]) (t := 9) (fr := (0, 0)) (heap_alloc_new w1 _)) (by intro u hu; simp at hu; subst hu; rfl) (by omega) hn1 hn2 (by have := B1.out.size; have := HB.out; simp; omega) (w1.heap.size + 1) (by simp) ?_; intro gg cap w3 hown hgrow hat hlt; have G3 := Lib.hid (G1.out.trans (Gr.grown (n := M.length + 1) (cap := cap) hgrow ((Kp.refl [] w1).alloc _) hat (Nat.le_succ _))); have B3 := Lib.hid (G3.out.below HO.out HB.out); have O3 : Hid (OwnStrs w3 B (.slice (some ⟨gg, 0, none⟩) (M.length + 1) cap) (M ++ [k])) := own_snoc hown; clear hown hgrow hat hlt)
      | (go_at_call_of 23 py; refine Calls.mono (J2.out _ _ B3.out O3.out) ?_; rintro e w4 ⟨v4, rfl, o4, k4⟩; have G4 := Lib.hid (G3.out.trans k4); have B4 := Lib.hid (G4.out.below HO.out HB.out); have O4 := Lib.hid o4; clear k4 o4))
    all_goals
      go_wp2_with fail
      go_ret
      exact ⟨_, rfl, O4.out, G4.out⟩
end Go.Proofs.Ytpocnldljglbgaa
