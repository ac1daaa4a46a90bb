/- Contracts of package journal: turnOf, readSuper. -/
import Derived.Test.YtggnljfcdohkaaaGreatDoorJnE
namespace Go.Proofs.YtggnljfcdohkaaaGreatDoor
open Go.RowKit

/-- What turnOf tells: the error's number or 0, the turn. -/
def turnS (s : ByteArray) : Nat × Nat :=
  match ttS s s.size with
  | (0, t, _) => match takeL 0 0 t.data.toList with
    | (0, k, _) => (0, k)
    | (c + 1, _, _) => (c + 1, 0)
  | (c + 1, _, _) => (c + 1, 0)
def TuPost (s : ByteArray) (e : Ending) : Prop :=
  (∃ k, turnS s = (0, k) ∧ k < 128 ^ 8 ∧ e = .returned (.tuple #[.int .i64 (k : Int), .nilIface]))
    ∨ ∃ (c : Nat) (of : ByteArray) (u : Int), (c = 10 ∨ c = 11 ∨ c = 13) ∧ (turnS s).1 = c ∧ e = .returned (.tuple #[.int .i64 0, pkErr of u (c : Int)])
set_option maxHeartbeats 1600000 in
set_option maxRecDepth 20000 in
theorem turnOf_any (s : ByteArray) (hs : s.size ≤ 1000000) (w : World) (hE : EHas w) :
    Calls Tryz.prog 102 #[.string s] w fun e w2 => TuPost s e ∧ Kp [] w w2 := by
  have HT := Lib.hid (ttext_all s (by omega) s.size w hE)
  clear hE
  go_enter Tryz.func102, Tryz.ntmps102
  go_wp2_with fail
  refine Calls.mono HT.out ?_
  rintro e w2 ⟨K, ⟨t, r, htt, hr, ht, rfl⟩ | ⟨c, u, hc, htt, rfl⟩⟩
  · have HK := Lib.hid K
    obtain ⟨⟨c, k, u⟩, h⟩ : ∃ x, takeS t = x := ⟨_, rfl⟩
    have hf := takeL_fits t.data.toList 0 0 (by decide) (by omega) c k u h
    have h' : takeL 0 0 t.data.toList = (c, k, u) := h
    have hts : t.size ≤ 9223372036854775 := by omega
    rcases hf with ⟨rfl, hk, _, _⟩ | ⟨rfl, rfl, _, _⟩ | ⟨rfl, rfl, _, _⟩
    · have HN : Hid (turnS s = (0, k)) := by show turnS s = _; unfold turnS; rw [htt]; simp only; rw [h']
      have HC := Lib.hid (take_yes t hts k u h)
      have Hk := Lib.hid hk
      clear htt K h h' hk hr ht
      go_wp2_with fail
      refine Calls.mono (HC.out _) ?_
      rintro e w3 ⟨rfl, K⟩
      have HK2 := Lib.hid (HK.out.trans K)
      clear K
      go_wp2_with fail
      go_ret2
      exact ⟨.inl ⟨k, HN.out, Hk.out, rfl⟩, HK2.out⟩
    all_goals
      have HN0 : ∀ c, takeL 0 0 t.data.toList = (c + 1, 0, u) → (turnS s).1 = c + 1 := fun c h => by unfold turnS; rw [htt]; simp only; rw [h]
      have HN := Lib.hid (HN0 _ h')
      clear HN0
      have HC := Lib.hid (take_no t hts _ 0 u h (by omega))
      clear htt K h h' hr ht
      unfold pkErr at HC
      go_wp2_with fail
      refine Calls.mono (HC.out _) ?_
      rintro e w3 ⟨rfl, K⟩
      have HK2 := Lib.hid (HK.out.trans K)
      clear K
      go_wp2_with fail
      go_ret2
      refine ⟨.inr ⟨_, _, _, ?_, HN.out, rfl⟩, HK2.out⟩
      omega
  · have HN := Lib.hid (show (turnS s).1 = c by rcases c with _ | c; (· omega); unfold turnS; rw [htt])
    have HC := Lib.hid hc
    have HK := Lib.hid K
    clear htt K hc
    unfold pkErr
    go_wp2_with fail
    go_ret2
    exact ⟨.inr ⟨c, _, _, HC.out, HN.out, rfl⟩, HK.out⟩

/-- The superblock that a sector's bytes are: its turn, its half. -/
def superS (s : ByteArray) : Option (Nat × Nat) :=
  match turnS s with
  | (0, turn) => match opS s (turn : Int) with
    | (0, t, r) => match takeL 0 0 t.data.toList with
      | (0, h, u) => if turn = 0 ∨ 1 < h ∨ u < t.size ∨ isZ r = false then none else some (turn, h)
      | _ => none
    | _ => none
  | _ => none
def supV (a t h : Int) : Value := .agg #[.int .i64 a, .int .i64 t, .int .i64 h]
/-- Why a sector's bytes are none: no error of the disk that has no power. -/
def SErr (v : Value) : Prop := (∃ (of : ByteArray) (u c : Int), v = pkErr of u c ∧ c ≠ 25) ∨ (∃ c : Int, FErr c v ∧ c ≠ 25) ∨ v = errNum 10
def SuPost (a : Nat) (s : ByteArray) (e : Ending) : Prop :=
  (∃ t h, superS s = some (t, h) ∧ t < 128 ^ 8 ∧ 0 < t ∧ h ≤ 1 ∧ e = .returned (.tuple #[supV a t h, .nilIface])) ∨ (superS s = none ∧ ∃ v, SErr v ∧ e = .returned (.tuple #[supV 0 0 0, v]))
/-- A variable of the superblock's type. -/
structure SupAt (w : World) (X : Nat) (a t h : Int) : Prop where
  c0 : w.cell? ⟨X, 0, none⟩ = some (.int .i64 a)
  c1 : w.cell? ⟨X, 1, none⟩ = some (.int .i64 t)
  c2 : w.cell? ⟨X, 2, none⟩ = some (.int .i64 h)
  f : ∀ o, w.frozen? ⟨X, o, none⟩ = false
def supO (a t h : Int) : Obj := .cells #[.int .i64 a, .int .i64 t, .int .i64 h] 85
theorem SupAt.new (w : World) (a t h : Int) : SupAt (w.alloc (supO a t h)) w.heap.size a t h := ⟨by simp [supO], by simp [supO], by simp [supO], fun o => by simp [supO]⟩
theorem SupAt.keep {f : List Nat} {w w2 : World} {X : Nat} {a t h : Int} (s : SupAt w X a t h) (k : Kp f w w2) (hX : X ∉ f) : SupAt w2 X a t h := by
  have hl : X < w.heap.size := World.block_lt_of_cell? w _ s.c0
  exact ⟨(k.cell (p := ⟨X, 0, none⟩) hl hX).trans s.c0, (k.cell (p := ⟨X, 1, none⟩) hl hX).trans s.c1, (k.cell (p := ⟨X, 2, none⟩) hl hX).trans s.c2, fun o => (k.frozen (p := ⟨X, o, none⟩) hl hX).trans (s.f o)⟩
theorem SupAt.kept {w w2 : World} {X : Nat} {a t h : Int} (s : SupAt w X a t h) (k : Kp [] w w2) : SupAt w2 X a t h := s.keep k (by simp)
theorem SupAt.lt {w : World} {X : Nat} {a t h : Int} (s : SupAt w X a t h) : X < w.heap.size := World.block_lt_of_cell? w _ s.c0
theorem SupAt.set {w : World} {X : Nat} {a t h : Int} (s : SupAt w X a t h) (a2 t2 h2 : Int) : SupAt (((w.setCell ⟨X, 0, none⟩ (.int .i64 a2)).setCell ⟨X, 1, none⟩ (.int .i64 t2)).setCell ⟨X, 2, none⟩ (.int .i64 h2)) X a2 t2 h2 := by
  have e1 := cell_eq w X 0 (.int .i64 a2) _ s.c0
  have e2 : (w.setCell ⟨X, 0, none⟩ (.int .i64 a2)).cell? ⟨X, 1, none⟩ = some (.int .i64 t) := (cell_ne w X 0 1 _ (by decide)).trans s.c1
  have e3 : ((w.setCell ⟨X, 0, none⟩ (.int .i64 a2)).setCell ⟨X, 1, none⟩ (.int .i64 t2)).cell? ⟨X, 2, none⟩ = some (.int .i64 h) := (cell_ne _ X 1 2 _ (by decide)).trans ((cell_ne w X 0 2 _ (by decide)).trans s.c2)
  exact ⟨(cell_ne _ X 2 0 _ (by decide)).trans ((cell_ne _ X 1 0 _ (by decide)).trans e1), (cell_ne _ X 2 1 _ (by decide)).trans (cell_eq _ X 1 _ _ e2), cell_eq _ X 2 _ _ e3, fun o => by simp [s.f o]⟩
theorem su_ret {P : Ending → World → Prop} {w : World} {c : Act} {X : Nat} {a t h : Int} {v : Value} (s : SupAt w X a t h) (h4 : c.tmps.getD 4 undef = .pointer (some ⟨X, 0, none⟩)) (h5 : c.tmps.getD 5 undef = v) (hd : c.defers = []) (hP : P (.returned (.tuple #[supV a t h, v])) w) :
    bodyPost Tryz.prog Tryz.f89 P .ret c w := by
  have c0 := s.c0
  have c1 := s.c1
  have c2 := s.c2
  refine bodyPost_ret (v := .tuple #[supV a t h, v]) ?_ hd hP
  simp [results, Tryz.results89, go_sem] at *
  simp [h4, h5, supV, go_sem, c0, c1, c2]
  done
set_option maxHeartbeats 3200000 in
set_option maxRecDepth 20000 in
theorem readSuper_dead {w : World} {f : List Nat} {b : Nat} {S : Dk} (D : DkF w f b S) (a : Nat) (ha : a ≤ 1) (hG : Gl w) (hd : S.dead = true) :
    Calls Tryz.prog 89 #[.pointer (some ⟨b, 0, none⟩), .int .i64 (a : Int)] w fun e w2 => (∃ t, e = .returned (.tuple #[supV 0 0 0, dErr t 25])) ∧ Kp [] w w2 := by
  have hre : S.rerr (a : Int) = 25 := by simp [Dk.rerr, hd]
  have hrb : S.rbytes (a : Int) = ⟨#[]⟩ := by unfold Dk.rbytes; rw [hre, if_neg (by decide)]
  have HR := Lib.hid (fun w2 (k : Kp [] w w2) => f_read (D.kept k) (a : Int) (by omega) (by omega) (hG.kept k))
  rw [hre, hrb] at HR
  clear D hG hd hre hrb
  go_enter Tryz.func89, Tryz.ntmps89
  go_wp2_with fail
  obtain ⟨X, hX⟩ : ∃ X, X = w.heap.size := ⟨_, rfl⟩
  have S0 : Hid (SupAt (w.alloc (supO 0 0 0)) X 0 0 0) := by rw [hX]; exact SupAt.new w 0 0 0
  have K0 : Hid (Kp [] w (w.alloc (supO 0 0 0))) := (Kp.refl [] w).alloc _
  have HX : Hid (w.heap.size ≤ X) := Nat.le_of_eq hX.symm
  rw [← hX]
  clear hX
  refine Calls.mono (HR.out _ K0.out) ?_
  rintro e x1 ⟨v, rfl, hv, K2⟩
  rcases hv with ⟨_, h0⟩ | ⟨⟨t, rfl⟩, _⟩
  · exact absurd h0 (by decide)
  have S1 := S0.out.kept K2
  have c0 := S1.c0
  have c1 := S1.c1
  have c2 := S1.c2
  have f0 := S1.f 0
  have f1 := S1.f 1
  have f2 := S1.f 2
  have K3 : Hid (Kp [] w x1) := K0.out.trans K2
  have HS1 := Lib.hid S1
  clear K2 S1 S0
  have HO := Lib.hid (ofDisk_ref t 25)
  unfold dkRef at HO
  go_wp2_with fail
  refine Calls.mono (HO.out _) ?_
  rintro e w3 ⟨rfl, rfl⟩
  unfold dErr dkRef
  go_wp2_with fail
  refine su_ret (HS1.out.set 0 0 0) rfl rfl rfl ?_
  exact ⟨⟨t, rfl⟩, ((K3.out.setCell (.inr HX.out) _).setCell (.inr HX.out) _).setCell (.inr HX.out) _⟩
theorem superS_turn {s : ByteArray} {c t : Nat} (h : turnS s = (c + 1, t)) : superS s = none := by unfold superS; rw [h]; rfl
theorem superS_open {s t r : ByteArray} {c k : Nat} (h : turnS s = (0, k)) (h2 : opS s (k : Int) = (c + 1, t, r)) : superS s = none := by unfold superS; rw [h]; simp only; rw [h2]; rfl
theorem superS_take {s t r : ByteArray} {c k h u : Nat} (h1 : turnS s = (0, k)) (h2 : opS s (k : Int) = (0, t, r)) (h3 : takeL 0 0 t.data.toList = (c + 1, h, u)) : superS s = none := by unfold superS; rw [h1]; simp only; rw [h2]; simp only; rw [h3]; rfl
theorem superS_end {s t r : ByteArray} {k h u : Nat} (h1 : turnS s = (0, k)) (h2 : opS s (k : Int) = (0, t, r)) (h3 : takeL 0 0 t.data.toList = (0, h, u)) : superS s = if k = 0 ∨ 1 < h ∨ u < t.size ∨ isZ r = false then none else some (k, h) := by unfold superS; rw [h1]; simp only; rw [h2]; simp only; rw [h3]; rfl
theorem isEmpty_size (t : ByteArray) : t.toList.isEmpty = decide (t.size = 0) := by
  have ht3 : t.size = t.data.toList.length := by rw [Array.length_toList]; rfl
  rw [ByteArray.toList_eq, ht3]
  cases t.data.toList <;> simp
theorem SErr.pk (of : ByteArray) (u c : Int) (h : c ≠ 25) : SErr (pkErr of u c) := .inl ⟨of, u, c, rfl, h⟩
theorem opS_le {s t r : ByteArray} {q : Int} (h : opS s q = (0, t, r)) : t.size ≤ s.size := by
  unfold opS at h
  split at h
  · next t' r' hu =>
    split at h
    · split at h
      · simp only [Prod.mk.injEq, true_and] at h
        rw [← h.1]
        simp only [ByteArray.size_extract]
        have : t'.size ≤ s.size := by
          unfold unS at hu
          split at hu
          · next t2 r2 ht =>
            split at hu
            · simp at hu
            · split at hu
              · simp only [Prod.mk.injEq, true_and] at hu
                rw [← hu.1]
                unfold ttS at ht
                split at ht
                · split at ht
                  · simp at ht
                  · split at ht
                    · simp at ht
                    · simp only [Prod.mk.injEq, true_and] at ht
                      rw [← ht.1]
                      simp only [ByteArray.size_extract]
                      omega
                · simp at ht
              · simp at hu
          · simp at hu
        omega
      · simp at h
    · simp at h
  · simp at h
set_option maxHeartbeats 6400000 in
set_option maxRecDepth 20000 in
theorem readSuper_ok {w : World} {f : List Nat} {b : Nat} {S : Dk} (D : DkF w f b S) (h4 : 4 ≤ S.n) (a : Nat) (ha : a ≤ 1) (hG : Gl w) (hd : S.dead = false) :
    Calls Tryz.prog 89 #[.pointer (some ⟨b, 0, none⟩), .int .i64 (a : Int)] w fun e w2 => SuPost a (S.read a) e ∧ Kp [] w w2 := by
  have hre : S.rerr (a : Int) = 0 := by simp [Dk.rerr, hd]; omega
  have hrb : S.rbytes (a : Int) = S.read a := by unfold Dk.rbytes; rw [hre, if_pos rfl]; rfl
  have HR := Lib.hid (fun w2 (k : Kp [] w w2) => f_read (D.kept k) (a : Int) (by omega) (by omega) (hG.kept k))
  rw [hre, hrb] at HR
  have hsz : (S.read a).size = 64 := by have := (D.sec a (by omega)).1; simpa [Dk.read, ByteArray.size] using this
  obtain ⟨s, hs⟩ : ∃ s, s = S.read a := ⟨_, rfl⟩
  rw [← hs] at HR hsz ⊢
  have HG := Lib.hid hG
  have Hsz := Lib.hid hsz
  clear D hG hd hre hrb hs hsz
  go_enter Tryz.func89, Tryz.ntmps89
  go_wp2_with fail
  obtain ⟨X, hX⟩ : ∃ X, X = w.heap.size := ⟨_, rfl⟩
  have S0 : Hid (SupAt (w.alloc (supO 0 0 0)) X 0 0 0) := by rw [hX]; exact SupAt.new w 0 0 0
  have K0 : Hid (Kp [] w (w.alloc (supO 0 0 0))) := (Kp.refl [] w).alloc _
  have HX : Hid (w.heap.size ≤ X) := Nat.le_of_eq hX.symm
  rw [← hX]
  clear hX
  refine Calls.mono (HR.out _ K0.out) ?_
  rintro e x1 ⟨v, rfl, hv, K2⟩
  rcases hv with ⟨rfl, _⟩ | ⟨_, h0⟩
  rotate_left
  · exact absurd rfl h0
  have S1 : Hid (SupAt x1 X 0 0 0) := S0.out.kept K2
  have K1 : Hid (Kp [] w x1) := K0.out.trans K2
  clear K2 S0 K0 HR
  go_wp2_with fail
  refine Calls.mono (turnOf_any s (by rw [Hsz.out]; decide) _ (HG.out.kept K1.out).2) ?_
  rintro e x2 ⟨⟨k, ht, hk, rfl⟩ | ⟨c, of, u, hc, ht, rfl⟩, K2⟩
  rotate_left
  · have HN : Hid (superS s = none) := by
      obtain ⟨c', t'⟩ : Nat × Nat := turnS s
      cases hq : turnS s with
      | mk c1 t1 =>
        rw [hq] at ht
        simp only at ht
        rcases c1 with _ | c1
        · omega
        · exact superS_turn hq
    have HE : Hid (SErr (pkErr of u (c : Int))) := SErr.pk of u c (by omega)
    have S2 : Hid (SupAt x2 X 0 0 0) := S1.out.kept K2
    have K3 : Hid (Kp [] w x2) := K1.out.trans K2
    have c0 := S2.out.c0
    have c1 := S2.out.c1
    have c2 := S2.out.c2
    have f0 := S2.out.f 0
    have f1 := S2.out.f 1
    have f2 := S2.out.f 2
    clear S1 K1 K2 ht hc
    unfold pkErr
    go_wp2_with fail
    refine su_ret (S2.out.set 0 0 0) rfl rfl rfl ?_
    exact ⟨.inr ⟨HN.out, _, HE.out, rfl⟩, ((K3.out.setCell (.inr HX.out) _).setCell (.inr HX.out) _).setCell (.inr HX.out) _⟩
  have S2 : Hid (SupAt x2 X 0 0 0) := S1.out.kept K2
  have K3 : Hid (Kp [] w x2) := K1.out.trans K2
  have HT := Lib.hid ht
  have Hk := Lib.hid hk
  clear S1 K1 K2 ht hk
  go_wp2_with fail
  refine Calls.mono (open_any s (by rw [Hsz.out]; decide) (k : Int) _ (HG.out.kept K3.out).2) ?_
  rintro e x3 ⟨K2, ⟨t, r, ho, rfl⟩ | ⟨cc, v, hc, ho, hv, rfl⟩⟩
  rotate_left
  · have HN : Hid (superS s = none) := by
      rcases cc with _ | cc
      · omega
      · exact superS_open HT.out ho
    have HE : Hid (SErr v) := .inr (.inl ⟨cc, hv, by omega⟩)
    obtain ⟨x, rfl⟩ := hv.iface
    have S3 : Hid (SupAt x3 X 0 0 0) := S2.out.kept K2
    have K4 : Hid (Kp [] w x3) := K3.out.trans K2
    have c0 := S3.out.c0
    have c1 := S3.out.c1
    have c2 := S3.out.c2
    have f0 := S3.out.f 0
    have f1 := S3.out.f 1
    have f2 := S3.out.f 2
    clear S2 K3 K2 ho hc hv
    go_wp2_with fail
    refine su_ret (S3.out.set 0 0 0) rfl rfl rfl ?_
    exact ⟨.inr ⟨HN.out, _, HE.out, rfl⟩, ((K4.out.setCell (.inr HX.out) _).setCell (.inr HX.out) _).setCell (.inr HX.out) _⟩
  have S3 : Hid (SupAt x3 X 0 0 0) := S2.out.kept K2
  have K4 : Hid (Kp [] w x3) := K3.out.trans K2
  have HO := Lib.hid ho
  have htz : t.size ≤ 64 := by have := opS_le ho; have := Hsz.out; omega
  have hrz : r.size ≤ 64 := by have := opS_shrink ho; have := Hsz.out; omega
  clear S2 K3 K2 ho
  obtain ⟨⟨c, h, u⟩, h'⟩ : ∃ x, takeS t = x := ⟨_, rfl⟩
  have hf := takeL_fits t.data.toList 0 0 (by decide) (by omega) c h u h'
  have h'' : takeL 0 0 t.data.toList = (c, h, u) := h'
  rcases hf with ⟨rfl, hh, hu, _⟩ | ⟨rfl, rfl, _, _⟩ | ⟨rfl, rfl, _, _⟩
  rotate_left
  iterate 2
    · have HN := Lib.hid (superS_take HT.out HO.out h'')
      have HC := Lib.hid (take_no t (by omega) _ 0 u h' (by omega))
      have HE := Lib.hid (SErr.pk sNumber)
      unfold pkErr at HC HE
      clear h' h''
      go_wp2_with fail
      refine Calls.mono (HC.out _) ?_
      rintro e x4 ⟨rfl, K2⟩
      have S4 : Hid (SupAt x4 X 0 0 0) := S3.out.kept K2
      have K5 : Hid (Kp [] w x4) := K4.out.trans K2
      have c0 := S4.out.c0
      have c1 := S4.out.c1
      have c2 := S4.out.c2
      have f0 := S4.out.f 0
      have f1 := S4.out.f 1
      have f2 := S4.out.f 2
      clear S3 K4 K2
      go_wp2_with fail
      refine su_ret (S4.out.set 0 0 0) rfl rfl rfl ?_
      refine ⟨.inr ⟨HN.out, _, HE.out _ _ ?_, rfl⟩, ((K5.out.setCell (.inr HX.out) _).setCell (.inr HX.out) _).setCell (.inr HX.out) _⟩
      decide
  have HN := Lib.hid (superS_end HT.out HO.out h'')
  have HC := Lib.hid (take_yes t (by omega) h u h')
  obtain ⟨m, hm⟩ : ∃ m, m = t.extract u t.size := ⟨_, rfl⟩
  have hmz : m.size = 0 ↔ ¬ u < t.size := by rw [hm, ByteArray.size_extract]; omega
  rw [← hm] at HC
  have Hm := Lib.hid hmz
  have hh9 : h ≤ 100000000000000000 := by have : (128 : Nat) ^ 8 = 72057594037927936 := by decide
                                          omega
  have hk9 : k ≤ 100000000000000000 := by have : (128 : Nat) ^ 8 = 72057594037927936 := by decide
                                          have := Hk.out
                                          omega
  clear h' h'' hm hmz hh
  go_wp2_with fail
  refine Calls.mono (HC.out _) ?_
  rintro e x4 ⟨rfl, K2⟩
  have S4 : Hid (SupAt x4 X 0 0 0) := S3.out.kept K2
  have K5 : Hid (Kp [] w x4) := K4.out.trans K2
  clear S3 K4 K2 HC
  by_cases q1 : k = 0
  · have d1 : ((k : Int) == 0) = true := by simpa using q1
    have HN2 : Hid (superS s = none) := HN.out.trans (if_pos (.inl q1))
    have c0 := S4.out.c0
    have c1 := S4.out.c1
    have c2 := S4.out.c2
    have f0 := S4.out.f 0
    have f1 := S4.out.f 1
    have f2 := S4.out.f 2
    clear q1
    go_wp2_with fail
    refine su_ret (S4.out.set 0 0 0) rfl rfl rfl ?_
    exact ⟨.inr ⟨HN2.out, _, .inr (.inr rfl), rfl⟩, ((K5.out.setCell (.inr HX.out) _).setCell (.inr HX.out) _).setCell (.inr HX.out) _⟩
  have d1 : ((k : Int) == 0) = false := by simpa using q1
  by_cases q2 : 1 < h
  · have d2 : decide ((1 : Int) < (h : Int)) = true := by simp; omega
    have HN2 : Hid (superS s = none) := HN.out.trans (if_pos (.inr (.inl q2)))
    have c0 := S4.out.c0
    have c1 := S4.out.c1
    have c2 := S4.out.c2
    have f0 := S4.out.f 0
    have f1 := S4.out.f 1
    have f2 := S4.out.f 2
    clear q1 q2
    go_wp2_with fail
    refine su_ret (S4.out.set 0 0 0) rfl rfl rfl ?_
    exact ⟨.inr ⟨HN2.out, _, .inr (.inr rfl), rfl⟩, ((K5.out.setCell (.inr HX.out) _).setCell (.inr HX.out) _).setCell (.inr HX.out) _⟩
  have d2 : decide ((1 : Int) < (h : Int)) = false := by simp; omega
  by_cases q3 : u < t.size
  · have d3 : m.toList.isEmpty = false := by rw [isEmpty_size]; have := Hm.out; exact decide_eq_false (by omega)
    have HN2 : Hid (superS s = none) := HN.out.trans (if_pos (.inr (.inr (.inl q3))))
    have c0 := S4.out.c0
    have c1 := S4.out.c1
    have c2 := S4.out.c2
    have f0 := S4.out.f 0
    have f1 := S4.out.f 1
    have f2 := S4.out.f 2
    clear q1 q2 q3
    go_wp2_with fail
    refine su_ret (S4.out.set 0 0 0) rfl rfl rfl ?_
    exact ⟨.inr ⟨HN2.out, _, .inr (.inr rfl), rfl⟩, ((K5.out.setCell (.inr HX.out) _).setCell (.inr HX.out) _).setCell (.inr HX.out) _⟩
  have d3 : m.toList.isEmpty = true := by rw [isEmpty_size]; have := Hm.out; exact decide_eq_true (by omega)
  have HQ := Lib.hid (And.intro q1 (And.intro q2 q3))
  clear q1 q2 q3
  go_wp2_with fail
  refine Calls.mono (isZero_any r (by omega) _) ?_
  rintro e x5 ⟨rfl, K2⟩
  have S5 : Hid (SupAt x5 X 0 0 0) := S4.out.kept K2
  have K6 : Hid (Kp [] w x5) := K5.out.trans K2
  have c0 := S5.out.c0
  have c1 := S5.out.c1
  have c2 := S5.out.c2
  have f0 := S5.out.f 0
  have f1 := S5.out.f 1
  have f2 := S5.out.f 2
  clear S4 K5 K2
  cases hz : isZ r
  · have HN2 : Hid (superS s = none) := HN.out.trans (if_pos (.inr (.inr (.inr hz))))
    clear hz
    go_wp2_with fail
    refine su_ret (S5.out.set 0 0 0) rfl rfl rfl ?_
    exact ⟨.inr ⟨HN2.out, _, .inr (.inr rfl), rfl⟩, ((K6.out.setCell (.inr HX.out) _).setCell (.inr HX.out) _).setCell (.inr HX.out) _⟩
  · have HN2 : Hid (superS s = some (k, h)) := by
      refine HN.out.trans (if_neg ?_)
      rintro (q | q | q | q)
      · exact HQ.out.1 q
      · exact HQ.out.2.1 q
      · exact HQ.out.2.2 q
      · rw [hz] at q; cases q
    clear hz
    go_wp2_with fail
    refine su_ret (S5.out.set (a : Int) (k : Int) (h : Int)) rfl rfl rfl ?_
    exact ⟨.inl ⟨k, h, HN2.out, Hk.out, by have := HQ.out.1; omega, by have := HQ.out.2.1; omega, rfl⟩, ((K6.out.setCell (.inr HX.out) _).setCell (.inr HX.out) _).setCell (.inr HX.out) _⟩
end Go.Proofs.YtggnljfcdohkaaaGreatDoor
/- Contracts of package journal: counting. -/
namespace Go.Proofs.YtggnljfcdohkaaaGreatDoor
open Go.RowKit

theorem SErr.iface {v : Value} (h : SErr v) : ∃ T x, v = .iface T x := by
  rcases h with ⟨of, u, c, rfl, _⟩ | ⟨c, h, _⟩ | rfl
  · exact ⟨_, _, rfl⟩
  · obtain ⟨x, rfl⟩ := h.iface
    exact ⟨_, _, rfl⟩
  · exact ⟨_, _, rfl⟩
theorem is_serr {v : Value} (h : SErr v) (w : World) :
    Calls Tryz.prog 27 #[v, .iface 63 (.int .i64 25)] w fun e w' => e = .returned (.bool false) ∧ Kp [] w w' := by
  rcases h with ⟨of, u, c, rfl, hc⟩ | ⟨c, h, hc⟩ | rfl
  · exact is_ref_no of u c 25 hc w
  · rcases h with ⟨s, rfl⟩ | ⟨s, of, u, rfl⟩
    · exact JnE.is_f_no s c 25 hc w
    · exact JnE.is_fp_no s of u c 25 hc w
  · exact JnE.is_n_no 10 25 (by decide) w
/-- The greater one of two superblocks; of equal ones the elder. -/
def bst (x : Option (Nat × Nat)) (a : Nat) (c : Nat × Nat × Nat) : Nat × Nat × Nat :=
  match x with
  | some (t, h) => if c.2.1 < t then (a, t, h) else c
  | none => c
def bstK (S : Dk) : Nat → Nat × Nat × Nat
  | 0 => (0, 0, 0)
  | k + 1 => bst (superS (S.read k)) k (bstK S k)
/-- The superblock that counts: where it lies, its turn (0: there is none), its half. -/
def countV (S : Dk) : Nat × Nat × Nat := bstK S 2
theorem bstK_le (S : Dk) (h : ∀ k t h, superS (S.read k) = some (t, h) → t < 128 ^ 8 ∧ h ≤ 1) : ∀ k, k ≤ 2 → (bstK S k).1 ≤ 1 ∧ (bstK S k).2.1 < 128 ^ 8 ∧ (bstK S k).2.2 ≤ 1
  | 0, _ => by simp [bstK]
  | k + 1, hk => by
    have ih := bstK_le S h k (by omega)
    unfold bstK bst
    split
    · next t hh hs =>
      have := h k t hh hs
      split
      · exact ⟨by omega, this.1, this.2⟩
      · exact ih
    · exact ih
theorem co_ret {P : Ending → World → Prop} {w : World} {c : Act} {X : Nat} {a t h : Int} {v : Value} (s : SupAt w X a t h) (h4 : c.tmps.getD 2 undef = .pointer (some ⟨X, 0, none⟩)) (h5 : c.tmps.getD 3 undef = v) (hd : c.defers = []) (hP : P (.returned (.tuple #[supV a t h, v])) w) :
    bodyPost Tryz.prog Tryz.f65 P .ret c w := by
  have c0 := s.c0
  have c1 := s.c1
  have c2 := s.c2
  refine bodyPost_ret (v := .tuple #[supV a t h, v]) ?_ hd hP
  simp [results, Tryz.results65, go_sem] at *
  simp [h4, h5, supV, go_sem, c0, c1, c2]
/-- Between two rounds of counting. -/
structure CoMid (S : Dk) (w0 w : World) (X2 X4 k : Nat) : Prop where
  kp : Kp [] w0 w
  s2 : SupAt w X2 0 0 0
  s4 : SupAt w X4 ((bstK S k).1 : Int) ((bstK S k).2.1 : Int) ((bstK S k).2.2 : Int)
set_option maxHeartbeats 6400000 in
set_option maxRecDepth 20000 in
theorem counting_dead {w : World} {f : List Nat} {b : Nat} {S : Dk} (D : DkF w f b S) (hG : Gl w) (hd : S.dead = true) :
    Calls Tryz.prog 65 #[.pointer (some ⟨b, 0, none⟩)] w fun e w2 => (∃ t, e = .returned (.tuple #[supV 0 0 0, dErr t 25])) ∧ Kp [] w w2 := by
  have HR := Lib.hid (fun w2 (k : Kp [] w w2) => readSuper_dead (D.kept k) 0 (by omega) (hG.kept k) hd)
  clear D hG hd
  go_enter Tryz.func65, Tryz.ntmps65
  go_wp2_with fail
  obtain ⟨X, hX⟩ : ∃ X, X = w.heap.size := ⟨_, rfl⟩
  obtain ⟨Y, hY⟩ : ∃ Y, Y = w.heap.size + 1 := ⟨_, rfl⟩
  have S0 : Hid (SupAt ((w.alloc (supO 0 0 0)).alloc (supO 0 0 0)) X 0 0 0) := by rw [hX]; exact (SupAt.new w 0 0 0).kept ((Kp.refl [] _).alloc _)
  have K0 : Hid (Kp [] w ((w.alloc (supO 0 0 0)).alloc (supO 0 0 0))) := ((Kp.refl [] w).alloc _).alloc _
  have HX : Hid (w.heap.size ≤ X) := Nat.le_of_eq hX.symm
  rw [← hY, ← hX]
  clear hX hY
  refine wp_loop_rounds 1 ?_
  rw [rounds_succ]
  go_wp2_with fail
  refine Calls.mono (HR.out _ K0.out) ?_
  rintro e x1 ⟨⟨t, rfl⟩, K2⟩
  have S1 : Hid (SupAt x1 X 0 0 0) := S0.out.kept K2
  have K3 : Hid (Kp [] w x1) := K0.out.trans K2
  clear K2 S0 K0
  unfold dErr dkRef supV
  obtain ⟨Z, hZ⟩ : ∃ Z, Z = x1.heap.size := ⟨_, rfl⟩
  have HZ := Lib.hid hZ
  go_wp2_with fail
  have K4 : Hid (Kp [] w (x1.alloc (supO 0 0 0))) := K3.out.alloc _
  have S4 : Hid (SupAt (x1.alloc (supO 0 0 0)) X 0 0 0) := S1.out.kept ((Kp.refl [] x1).alloc _)
  refine Calls.mono (JnE.is_dr_yes t 25 _) ?_
  rintro e x2 ⟨rfl, K2⟩
  have S5 : Hid (SupAt x2 X 0 0 0) := S4.out.kept K2
  have K6 : Hid (Kp [] w x2) := K4.out.trans K2
  clear K2 S4 K4 hZ HZ K3 S1
  have c0 := S5.out.c0
  have c1 := S5.out.c1
  have c2 := S5.out.c2
  have f0 := S5.out.f 0
  have f1 := S5.out.f 1
  have f2 := S5.out.f 2
  go_wp2_with fail
  refine co_ret (S5.out.set 0 0 0) rfl rfl rfl ?_
  exact ⟨⟨t, rfl⟩, ((K6.out.setCell (.inr HX.out) _).setCell (.inr HX.out) _).setCell (.inr HX.out) _⟩
/-- What counting answers. -/
def CoPost (S : Dk) (e : Ending) : Prop :=
  ((countV S).2.1 = 0 ∧ e = .returned (.tuple #[supV 0 0 0, errNum 10])) ∨ (0 < (countV S).2.1 ∧ e = .returned (.tuple #[supV ((countV S).1 : Int) ((countV S).2.1 : Int) ((countV S).2.2 : Int), .nilIface]))
set_option maxHeartbeats 6400000 in
set_option maxRecDepth 20000 in
theorem counting_ok {w : World} {f : List Nat} {b : Nat} {S : Dk} (D : DkF w f b S) (h4 : 4 ≤ S.n) (hG : Gl w) (hd : S.dead = false) :
    Calls Tryz.prog 65 #[.pointer (some ⟨b, 0, none⟩)] w fun e w2 => CoPost S e ∧ Kp [] w w2 := by
  have HR := Lib.hid (fun w2 (k : Kp [] w w2) (a : Nat) (ha : a ≤ 1) => readSuper_ok (D.kept k) h4 a ha (hG.kept k) hd)
  clear D hG hd
  go_enter Tryz.func65, Tryz.ntmps65
  go_wp2_with fail
  obtain ⟨X, hX⟩ : ∃ X, X = w.heap.size := ⟨_, rfl⟩
  obtain ⟨Y, hY⟩ : ∃ Y, Y = w.heap.size + 1 := ⟨_, rfl⟩
  have M0 : Hid (CoMid S w ((w.alloc (supO 0 0 0)).alloc (supO 0 0 0)) X Y 0) := by
    rw [hX, hY]
    refine ⟨((Kp.refl [] w).alloc _).alloc _, (SupAt.new w 0 0 0).kept ((Kp.refl [] _).alloc _), ?_⟩
    have := SupAt.new (w.alloc (supO 0 0 0)) 0 0 0
    simpa [bstK] using this
  have HX : Hid (w.heap.size ≤ X ∧ w.heap.size ≤ Y ∧ X ≠ Y) := ⟨by omega, by omega, by omega⟩
  rw [← hY, ← hX]
  clear hX hY
  go_loopw [8] (fun i wr => ∃ (k : Nat), k ≤ 2 ∧ i = .int .i64 (k : Int) ∧ Hid (CoMid S w wr X Y k)) (fun i _ => 2 - (intOf i).toNat)
  case atStart => exact ⟨0, by omega, rfl, M0⟩
  case round =>
    clear M0
    obtain ⟨k, hk, rfl, HM⟩ := hrel
    by_cases hlt : k < 2
    · have l1 : decide ((k : Int) < 2) = true := by simp; omega
      go_wp2_with fail
      refine Calls.mono (HR.out _ HM.out.kp k (by omega)) ?_
      rintro e x1 ⟨⟨t, h, hs, ht, ht0, hh, rfl⟩ | ⟨hs, v, hv, rfl⟩, K2⟩
      · have h128 : (128 : Nat) ^ 8 = 72057594037927936 := by decide
        have ht9 : t ≤ 100000000000000000 := by omega
        obtain ⟨u, hu⟩ : ∃ u, u = (bstK S k).2.1 := ⟨_, rfl⟩
        have K3 : Hid (Kp [] w x1) := HM.out.kp.trans K2
        have S2 : Hid (SupAt x1 X 0 0 0) := HM.out.s2.kept K2
        have S4 := HM.out.s4.kept K2
        rw [← hu] at S4
        have H4 := Lib.hid S4
        have HU := Lib.hid hu
        obtain ⟨Z, hZ⟩ : ∃ Z, Z = x1.heap.size := ⟨_, rfl⟩
        have SZ : Hid (SupAt (x1.alloc (supO (k : Int) (t : Int) (h : Int))) Z (k : Int) (t : Int) (h : Int)) := by rw [hZ]; exact SupAt.new x1 _ _ _
        have HZ : Hid (x1.heap.size ≤ Z ∧ w.heap.size ≤ Z ∧ Z ≠ X ∧ Z ≠ Y) := by
          have a1 := HM.out.s2.lt
          have a2 := HM.out.s4.lt
          have a3 := K2.size
          have a4 := K3.out.size
          exact ⟨by omega, by omega, by omega, by omega⟩
        have hZ2 := Lib.hid hZ
        have HS := Lib.hid hs
        have Hpos := Lib.hid ht0
        clear h128 hs ht ht0 hh S4 hu hZ K2 HM
        unfold supV
        go_wp2_with fail
        rw [← hZ2.out]
        refine Calls.mono (is_nil 25 _) ?_
        rintro e x2 ⟨rfl, rfl⟩
        have SX : Hid (SupAt (x1.alloc (supO (k : Int) (t : Int) (h : Int))) X 0 0 0) := S2.out.kept ((Kp.refl [] x1).alloc _)
        have SY : Hid (SupAt (x1.alloc (supO (k : Int) (t : Int) (h : Int))) Y ((bstK S k).1 : Int) (u : Int) ((bstK S k).2.2 : Int)) := H4.out.kept ((Kp.refl [] x1).alloc _)
        have K4 : Hid (Kp [] w (x1.alloc (supO (k : Int) (t : Int) (h : Int)))) := K3.out.alloc _
        clear S2 H4 K3 hZ2
        unfold supO at SX SY SZ K4
        have z0 := SZ.out.c0
        have z1 := SZ.out.c1
        have z2 := SZ.out.c2
        have y0 := SY.out.c0
        have y1 := SY.out.c1
        have y2 := SY.out.c2
        have g0 := SY.out.f 0
        have g1 := SY.out.f 1
        have g2 := SY.out.f 2
        generalize (x1.alloc (.cells #[.int .i64 (k : Int), .int .i64 (t : Int), .int .i64 (h : Int)] 85)) = x3 at *
        by_cases q : u < t
        · have d1 : decide ((u : Int) < (t : Int)) = true := by simp; omega
          have HN : Hid (bstK S (k + 1) = (k, t, h)) := by show bst _ _ _ = _; rw [HS.out]; show (if _ then _ else _) = _; rw [if_pos (by rw [← HU.out]; exact q)]
          go_wp2_with fail
          have M2 : Hid (CoMid S w (((x3.setCell ⟨Y, 0, none⟩ (.int .i64 (k : Int))).setCell ⟨Y, 1, none⟩ (.int .i64 (t : Int))).setCell ⟨Y, 2, none⟩ (.int .i64 (h : Int))) X Y (k + 1)) := by
            have kk : Kp [Y] x3 (((x3.setCell ⟨Y, 0, none⟩ (.int .i64 (k : Int))).setCell ⟨Y, 1, none⟩ (.int .i64 (t : Int))).setCell ⟨Y, 2, none⟩ (.int .i64 (h : Int))) := (((Kp.refl [Y] x3).setCell (.inl (by simp)) _).setCell (.inl (by simp)) _).setCell (.inl (by simp)) _
            refine ⟨K4.out.trans2 kk (fun x hx => .inr (by simp at hx; rw [hx]; exact HX.out.2.1)), SX.out.keep kk (by simpa using HX.out.2.2), ?_⟩
            rw [HN.out]
            exact SY.out.set _ _ _
          go_roundw
          case rel => exact ⟨k + 1, by omega, by go_num, M2⟩
          case measure => simp [intOf]; omega
        · have d1 : decide ((u : Int) < (t : Int)) = false := by simp; omega
          have HN : Hid (bstK S (k + 1) = bstK S k) := by show bst _ _ _ = _; rw [HS.out]; show (if _ then _ else _) = _; rw [if_neg (by rw [← HU.out]; exact q)]
          have M2 : Hid (CoMid S w x3 X Y (k + 1)) := ⟨K4.out, SX.out, by rw [HN.out, ← HU.out]; exact SY.out⟩
          go_wp2_with fail
          go_roundw
          case rel => exact ⟨k + 1, by omega, by go_num, M2⟩
          case measure => simp [intOf]; omega
      · obtain ⟨T, x, rfl⟩ := hv.iface
        have HV := Lib.hid hv
        have HN : Hid (bstK S (k + 1) = bstK S k) := by show bst _ _ _ = _; rw [hs]; rfl
        have M1 : Hid (CoMid S w (x1.alloc (supO 0 0 0)) X Y k) := ⟨(HM.out.kp.trans K2).alloc _, (HM.out.s2.kept K2).kept ((Kp.refl [] x1).alloc _), (HM.out.s4.kept K2).kept ((Kp.refl [] x1).alloc _)⟩
        clear hs hv K2 HM
        unfold supV
        go_wp2_with fail
        refine Calls.mono (is_serr HV.out _) ?_
        rintro e x2 ⟨rfl, K2⟩
        have M2 : Hid (CoMid S w x2 X Y (k + 1)) := ⟨M1.out.kp.trans K2, M1.out.s2.kept K2, by rw [HN.out]; exact M1.out.s4.kept K2⟩
        clear K2 M1
        go_wp2_with fail
        go_roundw
        case rel => exact ⟨k + 1, by omega, by go_num, M2⟩
        case measure => simp [intOf]; omega
    · have l1 : decide ((k : Int) < 2) = false := by simp; omega
      obtain rfl : k = 2 := by omega
      obtain ⟨a, ha⟩ : ∃ a, a = (countV S).1 := ⟨_, rfl⟩
      obtain ⟨t, ht⟩ : ∃ t, t = (countV S).2.1 := ⟨_, rfl⟩
      obtain ⟨h, hh⟩ : ∃ h, h = (countV S).2.2 := ⟨_, rfl⟩
      have SY : Hid (SupAt wr Y (a : Int) (t : Int) (h : Int)) := by rw [ha, ht, hh]; exact HM.out.s4
      have SX : Hid (SupAt wr X 0 0 0) := HM.out.s2
      have K4 : Hid (Kp [] w wr) := HM.out.kp
      have HA := Lib.hid (And.intro ha (And.intro ht hh))
      clear ha hh HM
      have x0 := SX.out.c0
      have x1 := SX.out.c1
      have x2 := SX.out.c2
      have y0 := SY.out.c0
      have y1 := SY.out.c1
      have y2 := SY.out.c2
      have g0 := SX.out.f 0
      have g1 := SX.out.f 1
      have g2 := SX.out.f 2
      by_cases q : t = 0
      · have d1 : ((t : Int) == 0) = true := by simpa using q
        have HQ : Hid ((countV S).2.1 = 0) := by rw [← ht]; exact q
        clear q ht
        go_wp2_with fail
        refine co_ret (SX.out.set 0 0 0) rfl rfl rfl ?_
        exact ⟨.inl ⟨HQ.out, rfl⟩, ((K4.out.setCell (.inr HX.out.1) _).setCell (.inr HX.out.1) _).setCell (.inr HX.out.1) _⟩
      · have d1 : ((t : Int) == 0) = false := by simpa using q
        have HQ : Hid (0 < (countV S).2.1) := by rw [← ht]; show 0 < t; omega
        clear q ht
        go_wp2_with fail
        refine co_ret (SX.out.set (a : Int) (t : Int) (h : Int)) rfl rfl rfl ?_
        refine ⟨.inr ⟨HQ.out, ?_⟩, ((K4.out.setCell (.inr HX.out.1) _).setCell (.inr HX.out.1) _).setCell (.inr HX.out.1) _⟩
        rw [HA.out.1, HA.out.2.1, HA.out.2.2]
        rfl
end Go.Proofs.YtggnljfcdohkaaaGreatDoor
