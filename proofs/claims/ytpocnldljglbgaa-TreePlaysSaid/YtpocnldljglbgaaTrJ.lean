/- Contracts of package tree: New, Get, With, Without, Keys, Len, Deep: maps, by the rows that they hold. -/
import Derived.Test.YtpocnldljglbgaaTrI
import Derived.Test.YtpocnldljglbgaaRowsAt
import Derived.Laws.MakeOwn
namespace Go.Proofs.Ytpocnldljglbgaa
open Go.RowKit Tr

/-- A map that lies there, and the row that it holds. -/
structure MapAt (w : World) (a : Option Addr) (L : List En) : Prop where
  ex : ∃ g p t, a = some ⟨g, 0, none⟩ ∧ g < w.heap.size ∧ w.cell? ⟨g, 0, none⟩ = some (.pointer p) ∧ TAt w t p ∧ t.Bal ∧ t.es = L ∧ w.heap[g]? = some (.cells #[.pointer p] 51)
  rise : Rise L
theorem MapAt.kp {w w2 : World} {a : Option Addr} {L : List En} (h : MapAt w a L) (K : Kp [] w w2) : MapAt w2 a L := by
  obtain ⟨g, p, t, h1, h2, h3, h4, h5, h6, h7⟩ := h.ex
  exact ⟨⟨g, p, t, h1, K.lt h2, (K.cell0 h2).trans h3, h4.kp K, h5, h6, (K.block g h2 (fun h => by cases h)).trans h7⟩, h.rise⟩
theorem MapAt.some {w : World} {a : Option Addr} {L : List En} (h : MapAt w a L) : ∃ g, a = some ⟨g, 0, none⟩ := by
  obtain ⟨g, p, t, h1, _⟩ := h.ex
  exact ⟨g, h1⟩
def lk (k : ByteArray) (L : List En) : Option Int := (L.find? fun x => x.1 = k).map (·.2)
theorem lk_get {t : Tr} (h : Rise t.es) (k : ByteArray) : lk k t.es = t.get k := by
  unfold lk
  cases hf : t.es.find? fun x => x.1 = k with
  | none =>
    refine ((get_none t h).2 fun n hm => ?_).symm
    have := List.find?_eq_none.1 hf _ hm
    simp at this
  | some x =>
    have h1 := List.mem_of_find?_eq_some hf
    have h2 : x.1 = k := by simpa using List.find?_some hf
    refine ((get_some t h).2 ?_).symm
    subst h2
    exact h1
theorem new_any (w : World) :
    Calls Try.prog 7 #[] w fun e w2 => ∃ a, e = .returned (.pointer a) ∧ Kp [] w w2 ∧ MapAt w2 a [] := by
  go_enter Try.func7, Try.ntmps7
  go_wp2
  go_ret
  refine ⟨_, rfl, (Kp.refl [] w).alloc _, ⟨w.heap.size, none, .nil, rfl, by simp, ?_, rfl, trivial, rfl, heap_alloc_new w _⟩, List.Pairwise.nil⟩
  rw [World.cell?_alloc_new]; rfl
theorem mapAt_new {w : World} {t : Tr} {p : Option Addr} (h : TAt w t p) (hb : t.Bal) (hr : Rise t.es) : MapAt (w.alloc (.cells #[.pointer p] 51)) (some ⟨w.heap.size, 0, none⟩) t.es :=
  ⟨⟨w.heap.size, p, t, rfl, by simp, by rw [World.cell?_alloc_new]; rfl, h.kp ((Kp.refl [] w).alloc _), hb, rfl, heap_alloc_new w _⟩, hr⟩
theorem len_any {w : World} {a : Option Addr} {L : List En} (h : MapAt w a L) :
    Calls Try.prog 17 #[.pointer a] w fun e w2 => e = .returned (.int .i64 (L.length : Nat)) ∧ w2 = w := by
  obtain ⟨g, p, t, rfl, h2, c0, T, hb, rfl, _⟩ := h.ex
  rw [es_len]
  have HC := Lib.hid (count_any T)
  clear T h hb
  go_enter Try.func17, Try.ntmps17
  go_wp2_with fail
  refine Calls.mono HC.out ?_
  rintro e w2 ⟨rfl, rfl⟩
  go_wp2_with fail
  go_ret
  exact ⟨rfl, rfl⟩
/-- A depth that a balanced tree of so many may have. -/
def Flat (d n : Nat) : Prop := least d ≤ n ∧ d ≤ n ∧ n < 2 ^ d
theorem deep_any {w : World} {a : Option Addr} {L : List En} (h : MapAt w a L) :
    Calls Try.prog 13 #[.pointer a] w fun e w2 => (∃ d : Nat, e = .returned (.int .i64 (d : Int)) ∧ Flat d L.length) ∧ w2 = w := by
  obtain ⟨g, p, t, rfl, h2, c0, T, hb, rfl, _⟩ := h.ex
  rw [es_len]
  have HC := Lib.hid (height_any T)
  have HF : Hid (Flat t.h t.sz) := ⟨least_sz t hb, h_le t, sz_lt t⟩
  clear T h hb
  go_enter Try.func13, Try.ntmps13
  go_wp2_with fail
  refine Calls.mono HC.out ?_
  rintro e w2 ⟨rfl, rfl⟩
  go_wp2_with fail
  go_ret
  exact ⟨⟨_, rfl, HF.out⟩, rfl⟩
def gotV (o : Option Int) : Value := match o with
  | some n => .tuple #[.int .i64 n, .bool true]
  | none => .tuple #[.int .i64 0, .bool false]
theorem get_any {w : World} {a : Option Addr} {L : List En} (h : MapAt w a L) (k : ByteArray) :
    Calls Try.prog 14 #[.pointer a, .string k] w fun e w2 => e = .returned (gotV (lk k L)) ∧ w2 = w := by
  obtain ⟨g, p, t, rfl, h2, c0, T, hb, rfl, _⟩ := h.ex
  rw [lk_get h.rise]
  have HC := Lib.hid (find_any k T)
  cases hg : t.get k with
  | none =>
    unfold gotV
    have HG := Lib.hid hg
    clear T h hb hg
    go_enter Try.func14, Try.ntmps14
    go_wp2_with fail
    refine Calls.mono HC.out ?_
    rintro e w2 ⟨q, rfl, hw, hf⟩
    have hw := hw.symm
    subst hw
    have hf : q = none := by
      rcases hf with ⟨_, hq⟩ | ⟨g3, n, _, hg, _⟩
      · exact hq
      · rw [HG.out] at hg; cases hg
    subst hf
    clear HC
    go_wp2_with fail
    go_ret2
    exact ⟨rfl, rfl⟩
  | some n =>
    unfold gotV
    have HG := Lib.hid hg
    clear T h hb hg
    go_enter Try.func14, Try.ntmps14
    go_wp2_with fail
    refine Calls.mono HC.out ?_
    rintro e w2 ⟨q, rfl, hw, hf⟩
    have hw := hw.symm
    subst hw
    obtain ⟨g3, rfl, c1⟩ : ∃ g3, q = some ⟨g3, 0, none⟩ ∧ w.cell? ⟨g3, 1, none⟩ = some (.int .i64 n) := by
      rcases hf with ⟨hg, _⟩ | ⟨g3, n2, hq, hg, hc⟩
      · rw [HG.out] at hg; cases hg
      · rw [HG.out] at hg
        injection hg with hg
        subst hg
        exact ⟨g3, hq, hc⟩
    clear HC hf HG
    go_wp2_with fail
    go_ret2
    exact ⟨rfl, rfl⟩
theorem With_any {w : World} {a : Option Addr} {L : List En} (h : MapAt w a L) (k : ByteArray) (n : Int) (hs : L.length ≤ 400000) :
    Calls Try.prog 9 #[.pointer a, .string k, .int .i64 n] w fun e w2 => ∃ a2, e = .returned (.pointer a2) ∧ Kp [] w w2 ∧ MapAt w2 a2 (put k n L) := by
  obtain ⟨g, p, t, rfl, h2, c0, T, hb, rfl, _⟩ := h.ex
  rw [es_len] at hs
  have HC := Lib.hid (with_any k n t w p T (by omega))
  have HB := Lib.hid (ins_bal k n t hb).1
  have HR : Hid (Rise (t.ins k n).es) := by rw [es_ins k n t h.rise]; exact rise_put k n _ h.rise
  rw [← es_ins k n t h.rise]
  clear T h hb
  go_enter Try.func9, Try.ntmps9
  go_wp2_with fail
  refine Calls.mono HC.out ?_
  rintro e w2 ⟨p2, rfl, k2, z2⟩
  have K2 := Lib.hid k2
  have T2 := Lib.hid z2
  clear k2 z2
  go_wp2_with fail
  go_ret
  exact ⟨_, rfl, K2.out.alloc _, mapAt_new T2.out HB.out HR.out⟩
theorem rem_none {t : Tr} (h : Rise t.es) {k : ByteArray} (hg : t.get k = none) : rem k t.es = t.es :=
  List.filter_eq_self.2 fun x hx => by
    have := (get_none t h).1 hg x.2
    simp only [ne_eq, decide_eq_true_eq]
    intro e
    subst e
    exact this hx
theorem Without_any {w : World} {a : Option Addr} {L : List En} (h : MapAt w a L) (k : ByteArray) (hs : L.length ≤ 400000) :
    Calls Try.prog 8 #[.pointer a, .string k] w fun e w2 => ∃ a2, e = .returned (.pointer a2) ∧ Kp [] w w2 ∧ MapAt w2 a2 (rem k L) := by
  obtain ⟨g, p, t, rfl, h2, c0, T, hb, rfl, _⟩ := h.ex
  rw [es_len] at hs
  have HC := Lib.hid (find_any k T)
  cases hg : t.get k with
  | none =>
    rw [rem_none h.rise hg]
    have HB := Lib.hid hb
    have HR := Lib.hid h.rise
    have HG := Lib.hid hg
    have HT := Lib.hid T
    clear T h hb hg
    go_enter Try.func8, Try.ntmps8
    go_wp2_with fail
    refine Calls.mono HC.out ?_
    rintro e w2 ⟨q, rfl, hw, hf⟩
    have hw := hw.symm
    subst hw
    have hf : q = none := by
      rcases hf with ⟨_, hq⟩ | ⟨g3, n, _, hg, _⟩
      · exact hq
      · rw [HG.out] at hg; cases hg
    subst hf
    clear HC
    go_wp2_with fail
    go_ret
    exact ⟨_, rfl, (Kp.refl [] _).alloc _, mapAt_new HT.out HB.out HR.out⟩
  | some n =>
    have HD := Lib.hid (del_any k t w p (by rw [hg]; simp) T (by omega))
    have HB := Lib.hid (del_bal k t hb).1
    have HR : Hid (Rise (t.del k).es) := by rw [es_del k t h.rise]; exact rise_rem k _ h.rise
    rw [← es_del k t h.rise]
    have HG := Lib.hid hg
    clear T h hb hg
    go_enter Try.func8, Try.ntmps8
    go_wp2_with fail
    refine Calls.mono HC.out ?_
    rintro e w2 ⟨q, rfl, hw, hf⟩
    have hw := hw.symm
    subst hw
    obtain ⟨g3, rfl⟩ : ∃ g3, q = some ⟨g3, 0, none⟩ := by
      rcases hf with ⟨hg, _⟩ | ⟨g3, n, hq, _, _⟩
      · rw [HG.out] at hg; cases hg
      · exact ⟨g3, hq⟩
    clear HC hf HG
    go_wp2_with fail
    refine Calls.mono HD.out ?_
    rintro e w3 ⟨p2, rfl, k2, z2⟩
    have K2 := Lib.hid k2
    have T2 := Lib.hid z2
    clear k2 z2 HD
    go_wp2_with fail
    go_ret
    exact ⟨_, rfl, K2.out.alloc _, mapAt_new T2.out HB.out HR.out⟩
/-- A row of texts of one's own, as it is read. -/
theorem own_at {w : World} {B : Nat} {v : Value} {l : List ByteArray} (h : OwnStrs w B v l) : ∃ b c, v = .slice b l.length c ∧ StrsAt w w.heap.size b l.length (fun i => l.getD i ⟨#[]⟩) := by
  rcases h.2 with ⟨rfl, h0⟩ | ⟨g, cap, cur, rfl, hb, hg, h1, h2, h3, h4⟩
  · exact ⟨none, 0, by rw [h0], fun i hi => by omega⟩
  · refine ⟨_, cap, rfl, fun i hi => ⟨g, 0, rfl, ?_, ?_⟩⟩
    · rcases Nat.lt_or_ge g w.heap.size with hlt | hge
      · exact hlt
      · rw [Array.getElem?_eq_none hge] at hg; cases hg
    · have h5 : (l.map Value.string)[i]? = some (.string (l.getD i ⟨#[]⟩)) := by
        rw [List.getElem?_map, List.getD_eq_getElem?_getD, List.getElem?_eq_getElem hi]; rfl
      rw [Nat.zero_add, ← h5, ← h4, List.getElem?_take, if_pos (by omega)]
      simp [World.cell?, hg]
def rowO (c : Nat) : Obj := .cells (madeCells (Value.string ⟨#[]⟩).cells c) 9
theorem make_row (c : Nat) (hc : c ≤ 1000000) (w : World) : (Instr.makeSlice 27 (.int .i64 0) (.int .i64 (c : Int))).run Try.prog w = .ok (.slice (some ⟨w.heap.size, 0, none⟩) 0 c) (w.alloc (rowO c)) := by
  obtain ⟨i, hi, h3, h1, h2⟩ := info_parts strInfo
  have := run_make (P := Try.prog) w 27 9 i (.string ⟨#[]⟩) Try.underlying27 hi h3 .i64 .i64 0 c (by omega) (by omega) (by rw [h2]; omega) (by omega)
  rw [this, h1]
  simp [rowO]
theorem made_own (w : World) (B c : Nat) (hB : B ≤ w.heap.size) (hc : c ≤ 1000000) : OwnStrs (w.alloc (rowO c)) B (.slice (some ⟨w.heap.size, 0, none⟩) 0 c) [] :=
  World.ownsRow_made w _ c hB (by unfold maxLen; omega) (by rw [Nat.mul_one]; exact (size_madeCells _ _))
def keyAt (L : List En) (i : Nat) : ByteArray := (L.map (·.1)).getD i ⟨#[]⟩
set_option maxHeartbeats 1600000 in
theorem keys_any {w : World} {a : Option Addr} {L : List En} (h : MapAt w a L) (hs : L.length ≤ 400000) :
    Calls Try.prog 16 #[.pointer a] w fun e w2 => ∃ b c, e = .returned (.slice b L.length c) ∧ Kp [] w w2 ∧ StrsAt w2 w2.heap.size b L.length (keyAt L) := by
  have HL := Lib.hid (fun W (K : Kp [] w W) => len_any (h.kp K))
  obtain ⟨g, p, t, rfl, h2, c0, T, hb, rfl, _⟩ := h.ex
  have hc : t.es.length ≤ 1000000 := by omega
  have S0 : Hid (∀ W, Kp [] w W → W.cell? ⟨g, 0, none⟩ = some (.pointer p)) := fun W K => (K.cell0 h2).trans c0
  obtain ⟨c, hcc⟩ : ∃ c, c = t.es.length := ⟨_, rfl⟩
  rw [← hcc] at HL hc ⊢
  have hmk := make_row c hc
  have K0 : Hid (Kp [] w w.drew) := (Kp.refl [] w).drew
  have K1 : Hid (Kp [] w (w.alloc (rowO c)).drew) := ((Kp.refl [] w).alloc _).drew
  have O1 : Hid (OwnStrs (w.alloc (rowO c)).drew w.heap.size (.slice (some ⟨w.heap.size, 0, none⟩) 0 c) []) := (Kp.refl [] _).drew.owns (made_own w w.heap.size c (Nat.le_refl _) hc) (fun _ _ h => by cases h)
  have J : Hid (∀ W, Kp [] w W → OwnStrs W w.heap.size (.slice (some ⟨w.heap.size, 0, none⟩) 0 c) [] → Calls Try.prog 23 #[.pointer p, .slice (some ⟨w.heap.size, 0, none⟩) 0 c] W fun e w2 => ∃ v2, e = .returned v2 ∧ OwnStrs w2 w.heap.size v2 ([] ++ t.keys) ∧ Gr W w2 (.slice (some ⟨w.heap.size, 0, none⟩) 0 c) v2) :=
    fun W K O => addKeys_any w.heap.size t W p _ [] (T.be.below (K.below (Nat.le_refl _) (fun x hx => by cases hx))) K.size O (by rw [es_len] at hcc; simp; omega)
  have Hkl : Hid (t.keys.length = c) := by show t.keys.length = c; rw [keys_len, hcc, es_len]
  have Hka : Hid (keyAt t.es = fun i => t.keys.getD i ⟨#[]⟩) := rfl
  clear T h hb hs h2 c0 hc hcc
  go_enter Try.func16, Try.ntmps16
  go_wp2_with fail
  go_region_held3 (fun w' => w'.cell? ⟨g, 0, none⟩ = some (.pointer p))
    (first | exact S0.out _ K0.out | exact S0.out _ K1.out | exact S0.out _ K2.out)
    (first
    | (go_at_call 17; refine Calls.mono (HL.out _ K0.out) ?_; rintro e w1 ⟨rfl, rfl⟩)
    | (go_at_call 23; refine Calls.mono (J.out _ K1.out O1.out) ?_; rintro e w2 ⟨v2, rfl, o2, g2⟩; have O2 := Lib.hid o2; have K2 : Hid (Kp [] w w2) := K1.out.trans2 (g2.kp.trans (Kp.refl _ _)) (by intro x hx; simp [Value.ownBlock] at hx; exact .inr (by omega)); clear o2 g2))
  all_goals
    go_wp2_with fail
    obtain ⟨b, c2, hv, HS⟩ := own_at O2.out
    rw [List.nil_append, Hkl.out] at hv HS
    subst hv
    go_ret
    exact ⟨b, c2, rfl, K2.out, by rw [Hka.out]; exact HS⟩
end Go.Proofs.Ytpocnldljglbgaa
