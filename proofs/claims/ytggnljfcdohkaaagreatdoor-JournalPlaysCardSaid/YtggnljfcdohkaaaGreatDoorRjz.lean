/- JournalPlays: a journal and the reference's beside one another: every call of both, dead or alive. -/
import Derived.Test.YtggnljfcdohkaaaGreatDoorRjw
import Derived.Test.YtggnljfcdohkaaaGreatDoorRjt
import Derived.Test.YtggnljfcdohkaaaGreatDoorRjv
import Derived.Test.YtggnljfcdohkaaaGreatDoorRja
import Derived.Test.YtggnljfcdohkaaaGreatDoorJnKn
import Derived.Test.YtggnljfcdohkaaaGreatDoorJnK
import Derived.Test.YtggnljfcdohkaaaGreatDoorJnAs
import Derived.Deep.RegionHeld3
import Derived.Test.YtggnljfcdohkaaaGreatDoorRefC
import Derived.Test.YtggnljfcdohkaaaGreatDoorDkL
namespace Go.Proofs.YtggnljfcdohkaaaGreatDoor
open Go.RowKit JnC

/-- A journal with its disk, in the blocks j and f; dead or alive. -/
structure JM (w : World) (f : List Nat) (b j : Nat) (S : Dk) (J : Jn) (dd : Bool) : Prop where
  d : DkF w f b S
  j_ : JnAt w j (.pointer (if dd then none else some ⟨b, 0, none⟩)) J
  jf : j ∉ f
  jg : 7 ≤ j
theorem JM.kept {w w2 : World} {f : List Nat} {b j : Nat} {S : Dk} {J : Jn} {dd : Bool} (h : JM w f b j S J dd) (k : Kp [] w w2) : JM w2 f b j S J dd := ⟨h.d.kept k, h.j_.kept k, h.jf, h.jg⟩
theorem JM.jf_ {w : World} {f : List Nat} {b j : Nat} {S : Dk} {J : Jn} (h : JM w f b j S J false) : JF w f b j S J := ⟨h.d, h.j_, h.jf, h.jg⟩
theorem JF.jm {w : World} {f : List Nat} {b j : Nat} {S : Dk} {J : Jn} (h : JF w f b j S J) : JM w f b j S J false := ⟨h.d, h.j_, h.jf, h.jg⟩
theorem JDead.jm {w : World} {f : List Nat} {b j : Nat} {S : Dk} {J : Jn} (h : JDead w f b j S J) : JM w f b j S J true := ⟨h.d, h.j_, h.jf, h.jg⟩
theorem JErr.cans {c : Int} {v : Value} (h : JErr c v) (h0 : c ≠ 0) : CAns c v := .inr ⟨.inr h, h0⟩
theorem jerr_num (call : ByteArray) (c : Int) : JErr c (jErr call (errNum c)) := ⟨call, _, rfl, .inl rfl⟩
theorem jerr_dsk (call t : ByteArray) (c : Int) : JErr c (jErr call (dErr t c)) := ⟨call, _, rfl, .inr ⟨t, rfl⟩⟩
theorem cans_nil : CAns 0 .nilIface := .inl ⟨rfl, rfl⟩
set_option maxHeartbeats 6400000 in
set_option maxRecDepth 20000 in
theorem Add_dead {w : World} {j : Nat} {J : Jn} (D : JnAt w j (.pointer none) J) (r : ByteArray) :
    Calls Tryz.prog 12 #[.pointer (some ⟨j, 0, none⟩), .string r] w fun e w2 => e = .returned (jErr sAdd (errNum 25)) ∧ Kp [] w w2 := by
  obtain ⟨X, hX⟩ : ∃ X, X = w.heap.size := ⟨_, rfl⟩
  obtain ⟨Y, hY⟩ : ∃ Y, Y = w.heap.size + 1 := ⟨_, rfl⟩
  obtain ⟨y, hy⟩ : ∃ y, y = (w.alloc (.cells #[.pointer (some ⟨j, 0, none⟩)] 33)).alloc (.cells #[.string r] 9) := ⟨_, rfl⟩
  have K : Kp [] w y := by rw [hy]; exact ((Kp.refl [] w).alloc _).alloc _
  have HDO := Lib.hid (do_dead j sAdd (.func (.func 41) #[] #[.pointer (some ⟨X, 0, none⟩), .pointer (some ⟨Y, 0, none⟩)]) y (D.kept K).c0)
  have HK := Lib.hid K
  have HY := Lib.hid (And.intro hX (And.intro hY hy))
  clear K D hX hY hy
  unfold sAdd jErr errNum at HDO
  unfold sAdd jErr errNum
  go_enter Tryz.func12, Tryz.ntmps12
  go_wp2_with fail
  rw [← HY.out.2.2, ← HY.out.2.1, ← HY.out.1]
  refine Calls.mono HDO.out ?_
  rintro e w3 ⟨rfl, hw⟩
  subst hw
  go_wp2_with fail
  go_ret
  exact ⟨rfl, HK.out⟩
set_option maxHeartbeats 6400000 in
set_option maxRecDepth 20000 in
theorem Sync_dead {w : World} {j : Nat} {J : Jn} (D : JnAt w j (.pointer none) J) :
    Calls Tryz.prog 14 #[.pointer (some ⟨j, 0, none⟩)] w fun e w2 => e = .returned (jErr sSync (errNum 25)) ∧ Kp [] w w2 := by
  obtain ⟨X, hX⟩ : ∃ X, X = w.heap.size := ⟨_, rfl⟩
  obtain ⟨y, hy⟩ : ∃ y, y = (w.alloc (.cells #[.pointer (some ⟨j, 0, none⟩)] 33)) := ⟨_, rfl⟩
  have K : Kp [] w y := by rw [hy]; exact (Kp.refl [] w).alloc _
  have HDO := Lib.hid (do_dead j sSync (.func (.func 46) #[] #[.pointer (some ⟨X, 0, none⟩)]) y (D.kept K).c0)
  have HK := Lib.hid K
  have HY := Lib.hid (And.intro hX hy)
  clear K D hX hy
  unfold sSync jErr errNum at HDO
  unfold sSync jErr errNum
  go_enter Tryz.func14, Tryz.ntmps14
  go_wp2_with fail
  rw [← HY.out.2, ← HY.out.1]
  refine Calls.mono HDO.out ?_
  rintro e w3 ⟨rfl, hw⟩
  subst hw
  go_wp2_with fail
  go_ret
  exact ⟨rfl, HK.out⟩
set_option maxHeartbeats 6400000 in
set_option maxRecDepth 20000 in
theorem Compact_dead {w : World} {j : Nat} {J : Jn} (D : JnAt w j (.pointer none) J) (a : Option Addr) (n c : Nat) :
    Calls Tryz.prog 16 #[.pointer (some ⟨j, 0, none⟩), .slice a n c] w fun e w2 => e = .returned (jErr sCompact (errNum 25)) ∧ Kp [] w w2 := by
  obtain ⟨X, hX⟩ : ∃ X, X = w.heap.size := ⟨_, rfl⟩
  obtain ⟨Y, hY⟩ : ∃ Y, Y = w.heap.size + 1 := ⟨_, rfl⟩
  obtain ⟨y, hy⟩ : ∃ y, y = (w.alloc (.cells #[.pointer (some ⟨j, 0, none⟩)] 33)).alloc (.cells #[.slice a n c] 34) := ⟨_, rfl⟩
  have K : Kp [] w y := by rw [hy]; exact ((Kp.refl [] w).alloc _).alloc _
  have HDO := Lib.hid (do_dead j sCompact (.func (.func 49) #[] #[.pointer (some ⟨X, 0, none⟩), .pointer (some ⟨Y, 0, none⟩)]) y (D.kept K).c0)
  have HK := Lib.hid K
  have HY := Lib.hid (And.intro hX (And.intro hY hy))
  clear K D hX hY hy
  unfold sCompact jErr errNum at HDO
  unfold sCompact jErr errNum
  go_enter Tryz.func16, Tryz.ntmps16
  go_wp2_with fail
  rw [← HY.out.2.2, ← HY.out.2.1, ← HY.out.1]
  refine Calls.mono HDO.out ?_
  rintro e w3 ⟨rfl, hw⟩
  subst hw
  go_wp2_with fail
  go_ret
  exact ⟨rfl, HK.out⟩
variable {w : World} {f : List Nat} {b j q r k : Nat} {S : Dk} {J : Jn} {dd : Bool}
theorem j_add (D : JM w f b j S J dd) (I : Inv k dd S J) (hk : k ≤ 100) (hG : Gl w) (s : ByteArray) :
    Calls Tryz.prog 12 #[.pointer (some ⟨j, 0, none⟩), .string s] w fun e w2 => ∃ v f2, e = .returned v ∧ CAns (aC dd S J s) v ∧ JM w2 f2 b j (aS dd S J s) (aJ dd S J s) (aD dd S J s) ∧ Mv (j :: f) w (j :: f2) w2 := by
  cases dd
  · obtain ⟨a1, a2, a3, a4, a5⟩ := I.al rfl
    refine (Add_any D.jf_ I.n4 a2 s hG _ I.ok.lim (by omega)).mono ?_
    rintro e w2 ⟨f2, M, ⟨h1, rfl, q⟩ | ⟨h1, h2, rfl, q⟩ | ⟨h1, h2, h3, ⟨t, rfl⟩, q⟩ | ⟨h1, h2, h3, rfl, q⟩⟩
    · refine ⟨_, f2, rfl, ?_, ?_, M⟩
      · unfold aC; simp only [Bool.false_eq_true, if_false]; rw [if_pos h1]; exact (jerr_num _ _).cans (by decide)
      · unfold aS aJ aD; simp only [Bool.false_eq_true, if_false]; rw [if_pos h1, if_pos h1, if_pos h1]; exact q.jm
    · refine ⟨_, f2, rfl, ?_, ?_, M⟩
      · unfold aC; simp only [Bool.false_eq_true, if_false]; rw [if_neg (by omega), if_pos h2]; exact (jerr_num _ _).cans (by decide)
      · unfold aS aJ aD; simp only [Bool.false_eq_true, if_false]; rw [if_neg (by omega), if_pos h2, if_neg (by omega), if_pos h2, if_neg (by omega), if_pos h2]; exact q.jm
    · refine ⟨_, f2, rfl, ?_, ?_, M⟩
      · unfold aC; simp only [Bool.false_eq_true, if_false]; rw [if_neg (by omega), if_neg (by omega)]; exact (jerr_dsk _ _ _).cans h3
      · unfold aS aJ aD; simp only [Bool.false_eq_true, if_false]; rw [if_neg (by omega), if_neg (by omega), if_neg (by omega), if_neg (by omega), if_neg h3, if_neg (by omega), if_neg (by omega), show decide ((addWr S J s).1 ≠ 0) = true by simpa using h3]; exact q.jm
    · refine ⟨_, f2, rfl, ?_, ?_, M⟩
      · unfold aC; simp only [Bool.false_eq_true, if_false]; rw [if_neg (by omega), if_neg (by omega), h3]; exact cans_nil
      · unfold aS aJ aD; simp only [Bool.false_eq_true, if_false]; rw [if_neg (by omega), if_neg (by omega), if_neg (by omega), if_neg (by omega), if_pos h3, if_neg (by omega), if_neg (by omega), show decide ((addWr S J s).1 ≠ 0) = false by simpa using h3]; exact q.jm
  · refine (Add_dead D.j_ s).mono ?_
    rintro e w2 ⟨rfl, K⟩
    exact ⟨_, f, rfl, (jerr_num _ _).cans (by show (25 : Int) ≠ 0; decide), D.kept K, Mv.of_kp K _⟩
theorem j_sync (D : JM w f b j S J dd) (I : Inv k dd S J) (hk : k ≤ 100) (hG : Gl w) :
    Calls Tryz.prog 14 #[.pointer (some ⟨j, 0, none⟩)] w fun e w2 => ∃ v f2, e = .returned v ∧ CAns (sC dd S) v ∧ JM w2 f2 b j (sS dd S) J (sD dd S) ∧ Mv (j :: f) w (j :: f2) w2 := by
  cases dd
  · refine (Sync_any D.jf_ hG _ I.ok.lim (by omega)).mono ?_
    rintro e w2 ⟨f2, M, ⟨h1, rfl, q⟩ | ⟨h1, ⟨t, rfl⟩, q⟩⟩
    · refine ⟨_, f2, rfl, ?_, ?_, M⟩
      · unfold sC; simp only [Bool.false_eq_true, if_false]; rw [h1]; exact cans_nil
      · unfold sS sD; simp only [Bool.false_eq_true, if_false]; rw [show decide (S.ferr ≠ 0) = false by simpa using h1]; exact q.jm
    · refine ⟨_, f2, rfl, ?_, ?_, M⟩
      · unfold sC; simp only [Bool.false_eq_true, if_false]; exact (jerr_dsk _ _ _).cans h1
      · unfold sS sD; simp only [Bool.false_eq_true, if_false]; rw [show decide (S.ferr ≠ 0) = true by simpa using h1]; exact q.jm
  · refine (Sync_dead D.j_).mono ?_
    rintro e w2 ⟨rfl, K⟩
    exact ⟨_, f, rfl, (jerr_num _ _).cans (by show (25 : Int) ≠ 0; decide), D.kept K, Mv.of_kp K _⟩
theorem j_compact (D : JM w f b j S J dd) (I : Inv k dd S J) (hk : k ≤ 100) (hG : Gl w) (a : Option Addr) (n c : Nat) (hn : n ≤ 20000) (sx : Nat → ByteArray) (hs : Small sx n) (hR : StrsAt w w.heap.size a n sx) :
    Calls Tryz.prog 16 #[.pointer (some ⟨j, 0, none⟩), .slice a n c] w fun e w2 => ∃ v f2, e = .returned v ∧ CAns (mC dd S J sx n) v ∧ JM w2 f2 b j (mS dd S J sx n) (mJ dd S J sx n) (mD dd S J sx n) ∧ Mv (j :: f) w (j :: f2) w2 := by
  cases dd
  · obtain ⟨a1, a2, a3, a4, a5⟩ := I.al rfl
    refine (Compact_any D.jf_ I.n4 a2 (by omega) a n c (by omega) sx hR hG _ I.ok.lim (by omega)).mono ?_
    rintro e w2 ⟨f2, M, ⟨h1, rfl, q⟩ | ⟨h1, h2, rfl, q⟩ | ⟨h1, h2, h3, ⟨t, rfl⟩, q⟩ | ⟨h1, h2, h3, rfl, q⟩⟩
    · exact absurd hs h1
    · refine ⟨_, f2, rfl, ?_, ?_, M⟩
      · unfold mC; simp only [Bool.false_eq_true, if_false]; rw [if_pos h2]; exact (jerr_num _ _).cans (by decide)
      · unfold mS mJ mD; simp only [Bool.false_eq_true, if_false]; rw [if_pos h2, if_pos h2, if_pos h2]; exact q.jm
    · refine ⟨_, f2, rfl, ?_, ?_, M⟩
      · unfold mC; simp only [Bool.false_eq_true, if_false]; rw [if_neg (by omega)]; exact (jerr_dsk _ _ _).cans h3
      · unfold mS mJ mD; simp only [Bool.false_eq_true, if_false]; rw [if_neg (by omega), if_neg (by omega), if_neg h3, if_neg (by omega), show decide (cErr S J sx n ≠ 0) = true by simpa using h3]; exact q.jm
    · refine ⟨_, f2, rfl, ?_, ?_, M⟩
      · unfold mC; simp only [Bool.false_eq_true, if_false]; rw [if_neg (by omega), h3]; exact cans_nil
      · unfold mS mJ mD; simp only [Bool.false_eq_true, if_false]; rw [if_neg (by omega), if_neg (by omega), if_pos h3, if_neg (by omega), show decide (cErr S J sx n ≠ 0) = false by simpa using h3]; exact q.jm
  · refine (Compact_dead D.j_ a n c).mono ?_
    rintro e w2 ⟨rfl, K⟩
    exact ⟨_, f, rfl, (jerr_num _ _).cans (by show (25 : Int) ≠ 0; decide), D.kept K, Mv.of_kp K _⟩
theorem r_add (D : QF w f b q S J dd) (I : Inv k dd S J) (hk : k ≤ 100) (s : ByteArray) :
    Calls Tryz.prog 13 #[.pointer (some ⟨q, 0, none⟩), .string s] w fun e w2 => e = .returned (.int .i64 (aC dd S J s)) ∧ ∃ f2, QF w2 f2 b q (aS dd S J s) (aJ dd S J s) (aD dd S J s) ∧ Mv (q :: f) w (q :: f2) w2 := by
  cases dd
  · obtain ⟨a1, a2, a3, a4, a5⟩ := I.al rfl
    by_cases h : 2010 < s.size
    · refine (radd_long D.q_ s h).mono ?_
      rintro e w2 ⟨rfl, rfl⟩
      unfold aC aS aJ aD
      simp only [Bool.false_eq_true, if_false]
      rw [if_pos h, if_pos h, if_pos h, if_pos h]
      exact ⟨rfl, f, D, Mv.refl _ _⟩
    · exact radd_live D I.n4 a2 a1 I.ok (by omega) a5 s (by omega)
  · refine (radd_dead D.q_ s).mono ?_
    rintro e w2 ⟨rfl, rfl⟩
    exact ⟨rfl, f, D, Mv.refl _ _⟩
theorem r_sync (D : QF w f b q S J dd) (I : Inv k dd S J) (hk : k ≤ 100) :
    Calls Tryz.prog 15 #[.pointer (some ⟨q, 0, none⟩)] w fun e w2 => e = .returned (.int .i64 (sC dd S)) ∧ ∃ f2, QF w2 f2 b q (sS dd S) J (sD dd S) ∧ Mv (q :: f) w (q :: f2) w2 :=
  rsync_any D _ I.ok.lim (by omega)
theorem r_compact (D : QF w f b q S J dd) (I : Inv k dd S J) (hk : k ≤ 100) (a : Option Addr) (n c : Nat) (hn : n ≤ 100) (sx : Nat → ByteArray) (hs : Small sx n) (hR : StrsAt w w.heap.size a n sx) :
    Calls Tryz.prog 17 #[.pointer (some ⟨q, 0, none⟩), .slice a n c] w fun e w2 => e = .returned (.int .i64 (mC dd S J sx n)) ∧ ∃ f2, QF w2 f2 b q (mS dd S J sx n) (mJ dd S J sx n) (mD dd S J sx n) ∧ Mv (q :: f) w (q :: f2) w2 := by
  cases dd
  · obtain ⟨a1, a2, a3, a4, a5⟩ := I.al rfl
    exact rcompact_live D I.n4 a2 I.ok (by omega) (by omega) a n c hn sx hs hR
  · refine (rcompact_dead D.q_ a n c).mono ?_
    rintro e w2 ⟨rfl, rfl⟩
    exact ⟨rfl, f, D, Mv.refl _ _⟩
end Go.Proofs.YtggnljfcdohkaaaGreatDoor
/- JournalPlays: two things beside one another in memory; the law's calls lifted to both. -/
namespace Go.Proofs.YtggnljfcdohkaaaGreatDoor
open Go.RowKit JnC

/-- What lies in the blocks of P is as it was. -/
structure PUp (P : Nat → Prop) (w w2 : World) : Prop where
  os : w2.os = w.os
  tape : w2.tape = w.tape
  output : w2.output = w.output
  size : w.heap.size ≤ w2.heap.size
  block : ∀ k, P k → w2.heap[k]? = w.heap[k]?
theorem PUp.refl (P : Nat → Prop) (w : World) : PUp P w w := ⟨rfl, rfl, rfl, Nat.le_refl _, fun _ _ => rfl⟩
theorem PUp.trans {P : Nat → Prop} {a b c : World} (h : PUp P a b) (k : PUp P b c) : PUp P a c :=
  ⟨k.os.trans h.os, k.tape.trans h.tape, k.output.trans h.output, Nat.le_trans h.size k.size, fun x hx => (k.block x hx).trans (h.block x hx)⟩
theorem Kp.pup {f : List Nat} {w w2 : World} (h : Kp f w w2) {P : Nat → Prop} (hl : ∀ x, P x → x < w.heap.size) (hf : ∀ x ∈ f, ¬ P x) : PUp P w w2 :=
  ⟨h.os, h.tape, h.output, h.size, fun k hk => h.block k (hl k hk) (fun hm => hf k hm hk)⟩
theorem PUp.mono {P Q : Nat → Prop} {w w2 : World} (h : PUp P w w2) (hq : ∀ x, Q x → P x) : PUp Q w w2 := ⟨h.os, h.tape, h.output, h.size, fun k hk => h.block k (hq k hk)⟩
theorem PUp.cell {P : Nat → Prop} {w w2 : World} (h : PUp P w w2) {g o : Nat} (hg : P g) : w2.cell? ⟨g, o, none⟩ = w.cell? ⟨g, o, none⟩ := World.cell?_of_block (w := w) (h.block g hg)
theorem PUp.kp0 {w w2 : World} (h : PUp (fun x => x < w.heap.size) w w2) : Kp [] w w2 := ⟨h.os, h.tape, h.output, h.size, fun k hk _ => h.block k hk⟩
theorem PUp.up {P : Nat → Prop} {w w2 : World} (h : PUp P w w2) {B : Nat} (hB : ∀ x, x < B → P x) : Up B w w2 := ⟨h.os.symm, h.tape.symm, h.output.symm, h.size, fun k hk _ => h.block k (hB k hk)⟩
theorem PUp.gl {P : Nat → Prop} {w w2 : World} (h : PUp P w w2) (hB : ∀ x, x < 7 → P x) (hg : Gl w) : Gl w2 :=
  ⟨(h.up hB).tab hg.1 (Nat.le_refl _), (h.cell (hB _ (by decide))).trans hg.2.1, Nat.lt_of_lt_of_le hg.2.2 h.size⟩
/-- Two things beside one another, apart from one another and from the blocks of P. -/
structure Tw (P : Nat → Prop) (w : World) (A B : World → List Nat → Prop) : Prop where
  ex : ∃ F G, A w F ∧ B w G ∧ (∀ x ∈ F, x ∉ G) ∧ (∀ x ∈ F, ¬ P x) ∧ ∀ x ∈ G, ¬ P x
  lt : ∀ x, P x → x < w.heap.size
structure Own (A : World → List Nat → Prop) : Prop where
  lt : ∀ w F, A w F → ∀ x ∈ F, x < w.heap.size
  keep : ∀ w w2 F g, A w F → Kp g w w2 → (∀ x ∈ F, x ∉ g) → A w2 F
theorem Tw.swap {P : Nat → Prop} {w : World} {A B : World → List Nat → Prop} (h : Tw P w A B) : Tw P w B A := by
  obtain ⟨⟨F, G, a, b, c, d, e⟩, l⟩ := h
  exact ⟨⟨G, F, b, a, fun x hx hf => c x hf hx, e, d⟩, l⟩
theorem Tw.call {α : Type} {P : Nat → Prop} {w : World} {A B : World → List Nat → Prop} {fn : FuncId} {args : Array Value} {R : Ending → α → Prop} {A2 : α → World → List Nat → Prop} (h : Tw P w A B) (oB : Own B)
    (c : ∀ F, A w F → (∀ x ∈ F, ¬ P x) → Calls Tryz.prog fn args w fun e w2 => ∃ a F2, R e a ∧ A2 a w2 F2 ∧ Mv F w F2 w2) :
    Calls Tryz.prog fn args w fun e w2 => ∃ a, R e a ∧ Tw P w2 (A2 a) B ∧ PUp P w w2 := by
  obtain ⟨⟨F, G, hA, hB, d, p, q⟩, hl⟩ := h
  refine (c F hA p).mono ?_
  rintro e w2 ⟨a, F2, hR, hA2, M⟩
  refine ⟨a, hR, ⟨⟨F2, G, hA2, oB.keep w w2 G F hB M.kp (fun x hx hm => d x hm hx), fun x hx hg => ?_, fun x hx hp => ?_, q⟩, fun x hx => Nat.lt_of_lt_of_le (hl x hx) M.kp.size⟩, M.kp.pup hl p⟩
  · rcases M.sub x hx with h1 | h1
    · exact d x h1 hg
    · have := oB.lt w G hB x hg; omega
  · rcases M.sub x hx with h1 | h1
    · exact p x h1 hp
    · have := hl x hp; omega
theorem Tw.callR {α : Type} {P : Nat → Prop} {w : World} {A B : World → List Nat → Prop} {fn : FuncId} {args : Array Value} {R : Ending → α → Prop} {B2 : α → World → List Nat → Prop} (h : Tw P w A B) (oA : Own A)
    (c : ∀ G, B w G → (∀ x ∈ G, ¬ P x) → Calls Tryz.prog fn args w fun e w2 => ∃ a G2, R e a ∧ B2 a w2 G2 ∧ Mv G w G2 w2) :
    Calls Tryz.prog fn args w fun e w2 => ∃ a, R e a ∧ Tw P w2 A (B2 a) ∧ PUp P w w2 := by
  refine (h.swap.call oA c).mono ?_
  rintro e w2 ⟨a, h1, h2, h3⟩
  exact ⟨a, h1, h2.swap, h3⟩
theorem Tw.keep {P : Nat → Prop} {w w2 : World} {A B : World → List Nat → Prop} (h : Tw P w A B) (oA : Own A) (oB : Own B) (k : Kp [] w w2) : Tw P w2 A B ∧ PUp P w w2 := by
  obtain ⟨⟨F, G, a, b, c, d, e⟩, l⟩ := h
  exact ⟨⟨⟨F, G, oA.keep _ _ _ _ a k (by simp), oB.keep _ _ _ _ b k (by simp), c, d, e⟩, fun x hx => Nat.lt_of_lt_of_le (l x hx) k.size⟩, k.pup l (by simp)⟩
theorem Tw.weak {P : Nat → Prop} {w : World} {A A2 B : World → List Nat → Prop} (h : Tw P w A B) (k : ∀ F, A w F → ∃ F2, A2 w F2 ∧ ∀ x ∈ F2, x ∈ F) : Tw P w A2 B := by
  obtain ⟨⟨F, G, a, b, c, d, e⟩, l⟩ := h
  obtain ⟨F2, a2, s⟩ := k F a
  exact ⟨⟨F2, G, a2, b, fun x hx => c x (s x hx), fun x hx => d x (s x hx), e⟩, l⟩
/-- A block more that is neither's. -/
theorem Tw.more {P : Nat → Prop} {w : World} {A B : World → List Nat → Prop} (h : Tw P w A B) (oA : Own A) (oB : Own B) (o : Obj) : Tw (fun x => P x ∨ x = w.heap.size) (w.alloc o) A B := by
  obtain ⟨⟨F, G, a, b, c, d, e⟩, l⟩ := h
  have k : Kp [] w (w.alloc o) := (Kp.refl [] w).alloc o
  refine ⟨⟨F, G, oA.keep _ _ _ _ a k (by simp), oB.keep _ _ _ _ b k (by simp), c, fun x hx hp => ?_, fun x hx hp => ?_⟩, fun x hx => ?_⟩
  · rcases hp with hp | hp
    · exact d x hx hp
    · have := oA.lt w F a x hx; omega
  · rcases hp with hp | hp
    · exact e x hx hp
    · have := oB.lt w G b x hx; omega
  · rcases hx with hx | hx
    · exact k.lt (l x hx)
    · have : w.heap.size < (w.alloc o).heap.size := by simp
      omega
theorem Tw.less {P Q : Nat → Prop} {w : World} {A B : World → List Nat → Prop} (h : Tw P w A B) (hq : ∀ x, Q x → P x) : Tw Q w A B := by
  obtain ⟨⟨F, G, a, b, c, d, e⟩, l⟩ := h
  exact ⟨⟨F, G, a, b, c, fun x hx hp => d x hx (hq x hp), fun x hx hp => e x hx (hq x hp)⟩, fun x hx => l x (hq x hx)⟩
/-- The five kinds. -/
def PD (b : Nat) (S : Dk) (w : World) (F : List Nat) : Prop := DkF w F b S
def RD (r : Nat) (S : Dk) (w : World) (G : List Nat) : Prop := RkF w G r S
def PJ (b j : Nat) (S : Dk) (J : Jn) (dd : Bool) (w : World) (F : List Nat) : Prop := ∃ f, F = j :: f ∧ JM w f b j S J dd
def RJ (r q : Nat) (S : Dk) (J : Jn) (dd : Bool) (w : World) (G : List Nat) : Prop := ∃ g, G = q :: g ∧ QF w g r q S J dd
theorem PD.own (b : Nat) (S : Dk) : Own (PD b S) := ⟨fun _ _ h x hx => (DkF.pos h x hx).2, fun _ _ _ _ h k hd => DkF.keep h k hd⟩
theorem RD.own (r : Nat) (S : Dk) : Own (RD r S) := ⟨fun _ _ h x hx => (RkF.pos h x hx).2, fun _ _ _ _ h k hd => RkF.keep h k hd⟩
theorem PJ.own (b j : Nat) (S : Dk) (J : Jn) (dd : Bool) : Own (PJ b j S J dd) := ⟨fun _ _ h x hx => by
    obtain ⟨f, rfl, h⟩ := h
    rcases List.mem_cons.1 hx with rfl | hx
    · exact h.j_.lt
    · exact (h.d.pos x hx).2, fun _ _ _ _ h k hd => by
    obtain ⟨f, rfl, h⟩ := h
    exact ⟨f, rfl, h.d.keep k (fun x hx => hd x (List.mem_cons_of_mem _ hx)), h.j_.keep k (hd _ (List.mem_cons_self ..)), h.jf, h.jg⟩⟩
theorem RJ.own (r q : Nat) (S : Dk) (J : Jn) (dd : Bool) : Own (RJ r q S J dd) := ⟨fun _ _ h x hx => by
    obtain ⟨f, rfl, h⟩ := h
    rcases List.mem_cons.1 hx with rfl | hx
    · exact h.q_.lt
    · exact (h.d.pos x hx).2, fun _ _ _ _ h k hd => by
    obtain ⟨f, rfl, h⟩ := h
    exact ⟨f, rfl, h.d.keep k (fun x hx => hd x (List.mem_cons_of_mem _ hx)), h.q_.keep k (hd _ (List.mem_cons_self ..)), h.qf, h.qg⟩⟩
theorem Tw.disks {P : Nat → Prop} {w : World} {b j r q : Nat} {S : Dk} {J : Jn} {dd : Bool} (h : Tw P w (PJ b j S J dd) (RJ r q S J dd)) : Tw P w (PD b S) (RD r S) :=
  ((h.weak (A2 := PD b S) (fun F ⟨f, hf, D⟩ => ⟨f, D.d, fun x hx => by rw [hf]; exact List.mem_cons_of_mem _ hx⟩)).swap.weak (A2 := RD r S) (fun F ⟨f, hf, D⟩ => ⟨f, D.d, fun x hx => by rw [hf]; exact List.mem_cons_of_mem _ hx⟩)).swap
variable {P : Nat → Prop} {w : World} {b j r q k : Nat} {S : Dk} {J : Jn} {dd : Bool}
theorem t_add {B : World → List Nat → Prop} (h : Tw P w (PJ b j S J dd) B) (oB : Own B) (I : Inv k dd S J) (hk : k ≤ 100) (hG : Gl w) (s : ByteArray) :
    Calls Tryz.prog 12 #[.pointer (some ⟨j, 0, none⟩), .string s] w fun e w2 => ∃ v, (e = .returned v ∧ CAns (aC dd S J s) v) ∧ Tw P w2 (PJ b j (aS dd S J s) (aJ dd S J s) (aD dd S J s)) B ∧ PUp P w w2 :=
  h.call (α := Value) (R := fun e v => e = .returned v ∧ CAns (aC dd S J s) v) (A2 := fun _ => PJ b j (aS dd S J s) (aJ dd S J s) (aD dd S J s)) oB (fun F ⟨f, hf, D⟩ _ => by
    subst hf
    refine (j_add D I hk hG s).mono ?_
    rintro e w2 ⟨v, f2, rfl, hv, h1, h2⟩
    exact ⟨v, _, ⟨rfl, hv⟩, ⟨f2, rfl, h1⟩, h2⟩)
theorem t_radd {A : World → List Nat → Prop} (h : Tw P w A (RJ r q S J dd)) (oA : Own A) (I : Inv k dd S J) (hk : k ≤ 100) (s : ByteArray) :
    Calls Tryz.prog 13 #[.pointer (some ⟨q, 0, none⟩), .string s] w fun e w2 => e = .returned (.int .i64 (aC dd S J s)) ∧ Tw P w2 A (RJ r q (aS dd S J s) (aJ dd S J s) (aD dd S J s)) ∧ PUp P w w2 :=
  (h.callR (α := Unit) (R := fun e _ => e = .returned (.int .i64 (aC dd S J s))) (B2 := fun _ => RJ r q (aS dd S J s) (aJ dd S J s) (aD dd S J s)) oA (fun F ⟨f, hf, D⟩ _ => by
    subst hf
    refine (r_add D I hk s).mono ?_
    rintro e w2 ⟨rfl, f2, h1, h2⟩
    exact ⟨(), _, rfl, ⟨f2, rfl, h1⟩, h2⟩)).mono (fun _ _ ⟨_, h⟩ => h)
theorem t_sync {B : World → List Nat → Prop} (h : Tw P w (PJ b j S J dd) B) (oB : Own B) (I : Inv k dd S J) (hk : k ≤ 100) (hG : Gl w) :
    Calls Tryz.prog 14 #[.pointer (some ⟨j, 0, none⟩)] w fun e w2 => ∃ v, (e = .returned v ∧ CAns (sC dd S) v) ∧ Tw P w2 (PJ b j (sS dd S) J (sD dd S)) B ∧ PUp P w w2 :=
  h.call (α := Value) (R := fun e v => e = .returned v ∧ CAns (sC dd S) v) (A2 := fun _ => PJ b j (sS dd S) J (sD dd S)) oB (fun F ⟨f, hf, D⟩ _ => by
    subst hf
    refine (j_sync D I hk hG).mono ?_
    rintro e w2 ⟨v, f2, rfl, hv, h1, h2⟩
    exact ⟨v, _, ⟨rfl, hv⟩, ⟨f2, rfl, h1⟩, h2⟩)
theorem t_rsync {A : World → List Nat → Prop} (h : Tw P w A (RJ r q S J dd)) (oA : Own A) (I : Inv k dd S J) (hk : k ≤ 100) :
    Calls Tryz.prog 15 #[.pointer (some ⟨q, 0, none⟩)] w fun e w2 => e = .returned (.int .i64 (sC dd S)) ∧ Tw P w2 A (RJ r q (sS dd S) J (sD dd S)) ∧ PUp P w w2 :=
  (h.callR (α := Unit) (R := fun e _ => e = .returned (.int .i64 (sC dd S))) (B2 := fun _ => RJ r q (sS dd S) J (sD dd S)) oA (fun F ⟨f, hf, D⟩ _ => by
    subst hf
    refine (r_sync D I hk).mono ?_
    rintro e w2 ⟨rfl, f2, h1, h2⟩
    exact ⟨(), _, rfl, ⟨f2, rfl, h1⟩, h2⟩)).mono (fun _ _ ⟨_, h⟩ => h)
/-- Two texts alike in a new block. -/
def Pair (w : World) (g : Nat) (s : ByteArray) : Prop := w.cell? ⟨g, 0, none⟩ = some (.string s) ∧ w.cell? ⟨g, 1, none⟩ = some (.string s)
theorem Pair.strs {w : World} {g : Nat} {s : ByteArray} (h : Pair w g s) : StrsAt w w.heap.size (some ⟨g, 0, none⟩) 2 (fun _ => s) := fun i hi => by
  refine ⟨g, 0, rfl, World.block_lt_of_cell? w _ h.1, ?_⟩
  match i, hi with
  | 0, _ => exact h.1
  | 1, _ => exact h.2
theorem Pair.keep {f : List Nat} {w w2 : World} {g : Nat} {s : ByteArray} (h : Pair w g s) (k : Kp f w w2) (hg : g ∉ f) : Pair w2 g s :=
  ⟨(k.cell (p := ⟨g, 0, none⟩) (World.block_lt_of_cell? w _ h.1) hg).trans h.1, (k.cell (p := ⟨g, 1, none⟩) (show g < w.heap.size from World.block_lt_of_cell? w _ h.1) hg).trans h.2⟩
theorem Pair.new (w : World) (s : ByteArray) : Pair (w.alloc (.cells #[.string s, .string s] 9)) w.heap.size s := ⟨by simp, by simp⟩
theorem Pair.past {w : World} {g : Nat} {s : ByteArray} (h : Pair w g s) (o : Obj) : Pair (w.alloc o) g s := h.keep ((Kp.refl [] w).alloc o) (by simp)
theorem Pair.drew {w : World} {g : Nat} {s : ByteArray} (h : Pair w g s) : Pair w.drew g s := h.keep (Kp.refl [] w).drew (by simp)
theorem small2 (s : ByteArray) (h : s.size ≤ 250) : Small (fun _ => s) 2 := fun i _ => by show s.size ≤ 2010; omega
/-- Behind a world w0 with both, new blocks have been laid (W): the journal is compacted there. -/
theorem t_compact {B : World → List Nat → Prop} {w0 : World} (h : Tw P w0 (PJ b j S J dd) B) (oB : Own B) (I : Inv k dd S J) (hk : k ≤ 100) (hG : Gl w0) (s : ByteArray) (hs : s.size ≤ 250) (g : Nat) (K : Kp [] w0 w) (hp : Pair w g s) :
    Calls Tryz.prog 16 #[.pointer (some ⟨j, 0, none⟩), .slice (some ⟨g, 0, none⟩) 2 2] w fun e w2 => ∃ v, (e = .returned v ∧ CAns (mC dd S J (fun _ => s) 2) v ∧ ∀ x, w0.heap.size ≤ x → Pair w x s → Pair w2 x s) ∧ Tw P w2 (PJ b j (mS dd S J (fun _ => s) 2) (mJ dd S J (fun _ => s) 2) (mD dd S J (fun _ => s) 2)) B ∧ PUp P w0 w2 := by
  obtain ⟨⟨F, G, hA, hB, d, p, q2⟩, hl⟩ := h
  obtain ⟨f, rfl, D⟩ := hA
  have hA0 : PJ b j S J dd w0 (j :: f) := ⟨f, rfl, D⟩
  have oA := PJ.own b j S J dd
  refine (j_compact (D.kept K) I hk (hG.kept K) (some ⟨g, 0, none⟩) 2 2 (by omega) (fun _ => s) (small2 s hs) hp.strs).mono ?_
  rintro e w2 ⟨v, f2, rfl, hv, h1, M⟩
  have hB1 := oB.keep _ _ _ _ hB K (by simp)
  refine ⟨v, ⟨rfl, hv, fun x hx hq => hq.keep M.kp (fun hm => by have := oA.lt w0 _ hA0 x hm; omega)⟩, ⟨⟨j :: f2, G, ⟨f2, rfl, h1⟩, oB.keep w w2 G _ hB1 M.kp (fun x hx hm => d x hm hx), fun x hx hg => ?_, fun x hx hp2 => ?_, q2⟩, fun x hx => Nat.lt_of_lt_of_le (hl x hx) (Nat.le_trans K.size M.kp.size)⟩,
    (K.pup hl (by simp)).trans (M.kp.pup (fun x hx => Nat.lt_of_lt_of_le (hl x hx) K.size) p)⟩
  · rcases M.sub x hx with h3 | h3
    · exact d x h3 hg
    · have := oB.lt w G hB1 x hg; omega
  · rcases M.sub x hx with h3 | h3
    · exact p x h3 hp2
    · have := hl x hp2; have := K.size; omega
theorem t_rcompact {A : World → List Nat → Prop} {w0 : World} (h : Tw P w0 A (RJ r q S J dd)) (oA : Own A) (I : Inv k dd S J) (hk : k ≤ 100) (s : ByteArray) (hs : s.size ≤ 250) (g : Nat) (K : Kp [] w0 w) (hp : Pair w g s) :
    Calls Tryz.prog 17 #[.pointer (some ⟨q, 0, none⟩), .slice (some ⟨g, 0, none⟩) 2 2] w fun e w2 => e = .returned (.int .i64 (mC dd S J (fun _ => s) 2)) ∧ Tw P w2 A (RJ r q (mS dd S J (fun _ => s) 2) (mJ dd S J (fun _ => s) 2) (mD dd S J (fun _ => s) 2)) ∧ PUp P w0 w2 := by
  have oB := RJ.own r q S J dd
  obtain ⟨h2, u2⟩ := h.keep oA oB K
  refine ((h2.callR (α := Unit) (R := fun e _ => e = .returned (.int .i64 (mC dd S J (fun _ => s) 2))) (B2 := fun _ => RJ r q (mS dd S J (fun _ => s) 2) (mJ dd S J (fun _ => s) 2) (mD dd S J (fun _ => s) 2)) oA (fun F hF _ => by
    obtain ⟨f, hf, D⟩ := hF
    subst hf
    refine (r_compact D I hk (some ⟨g, 0, none⟩) 2 2 (by omega) (fun _ => s) (small2 s hs) hp.strs).mono ?_
    rintro e w2 ⟨rfl, f2, h1, h2⟩
    exact ⟨(), _, rfl, ⟨f2, rfl, h1⟩, h2⟩))).mono ?_
  rintro e w2 ⟨_, h3, h4, h5⟩
  exact ⟨h3, h4, u2.trans h5⟩
end Go.Proofs.YtggnljfcdohkaaaGreatDoor
/- What is read is what lasts with the loose Writes laid over it, for both disks. Plain mathematics. -/
namespace Go.Proofs.YtggnljfcdohkaaaGreatDoor
open Go.RowKit

/-- Both read the same. -/
theorem Dk.Ok.same {S : Dk} {m : Nat} (h : S.Ok m) (p : Int) : S.rbytes p = S.lbytes p := by
  unfold Dk.rbytes Dk.lbytes
  split
  · next he =>
    have hp : ¬ (p < 0 ∨ (S.n : Int) ≤ p) := by
      intro hh
      have h1 : S.rerr p = 25 ∨ S.rerr p = 14 := by
        unfold Dk.rerr
        by_cases hd : S.dead = true
        · rw [if_pos hd]; exact .inl rfl
        · rw [if_neg hd, if_pos hh]; exact .inr rfl
      rw [he] at h1
      revert h1
      decide
    have hk : p.toNat < S.n := by omega
    show (⟨(S.C p.toNat).toArray⟩ : ByteArray) = _
    rw [h.inv _ hk]
    rfl
  · rfl
end Go.Proofs.YtggnljfcdohkaaaGreatDoor
/- JournalPlays: crash, open, cut, read, lengths: lifted to both; SameTexts. -/
namespace Go.Proofs.YtggnljfcdohkaaaGreatDoor
open Go.RowKit JnC

variable {P : Nat → Prop} {w : World} {b j r q k : Nat} {S : Dk} {J : Jn} {dd : Bool}
theorem t_cut {B : World → List Nat → Prop} (h : Tw P w (PJ b j S J dd) B) (oB : Own B) (p : Int) :
    Calls Tryz.prog 21 #[.pointer (some ⟨b, 0, none⟩), .int .i64 p] w fun e w2 => e = .returned (.tuple #[]) ∧ Tw P w2 (PJ b j (S.cutAt p) J dd) B ∧ PUp P w w2 :=
  (h.call (α := Unit) (R := fun e _ => e = .returned (.tuple #[])) (A2 := fun _ => PJ b j (S.cutAt p) J dd) oB (fun F ⟨f, hf, D⟩ _ => by
    subst hf
    refine (f_cut D.d p).mono ?_
    rintro e w2 ⟨rfl, h1, M⟩
    exact ⟨(), j :: f, rfl, ⟨f, rfl, h1, D.j_.keep M.kp D.jf, D.jf, D.jg⟩, M.more j⟩)).mono (fun _ _ ⟨_, h⟩ => h)
theorem t_rcut {A : World → List Nat → Prop} (h : Tw P w A (RJ r q S J dd)) (oA : Own A) (p : Int) :
    Calls Tryz.prog 22 #[.pointer (some ⟨r, 0, none⟩), .int .i64 p] w fun e w2 => e = .returned (.tuple #[]) ∧ Tw P w2 A (RJ r q (S.cutAt p) J dd) ∧ PUp P w w2 :=
  (h.callR (α := Unit) (R := fun e _ => e = .returned (.tuple #[])) (B2 := fun _ => RJ r q (S.cutAt p) J dd) oA (fun F ⟨f, hf, D⟩ _ => by
    subst hf
    refine (g_cut D.d p).mono ?_
    rintro e w2 ⟨rfl, f2, h1, M⟩
    exact ⟨(), q :: f2, rfl, ⟨f2, rfl, h1, D.q_.keep M.kp D.qf, M.apart D.qf D.q_.lt, D.qg⟩, M.more q⟩)).mono (fun _ _ ⟨_, h⟩ => h)
/-- A []bool that is handed over, in blocks of P. -/
def KeepP (P : Nat → Prop) (w : World) (a : Option Addr) (ks : List Bool) : Prop :=
  ∀ i, i < ks.length → ∃ kb ko, a = some ⟨kb, ko, none⟩ ∧ P kb ∧ w.cell? ⟨kb, ko + i, none⟩ = some (.bool (ks.getD i false))
theorem KeepP.up {w2 : World} {a : Option Addr} {ks : List Bool} (h : KeepP P w a ks) (u : PUp P w w2) : KeepP P w2 a ks := fun i hi => by
  obtain ⟨kb, ko, h1, h2, h3⟩ := h i hi
  exact ⟨kb, ko, h1, h2, (u.cell h2).trans h3⟩
theorem t_crash {B : World → List Nat → Prop} (h : Tw P w (PD b S) B) (oB : Own B) (m : Nat) (hm : S.Lim m) (hmm : m < 4294967295) (ka : Option Addr) (kc : Nat) (ks : List Bool) (hk : KeepP P w ka ks) (tn : Int) :
    Calls Tryz.prog 18 #[.pointer (some ⟨b, 0, none⟩), .slice ka ks.length kc, .int .i64 tn] w fun e w2 => e = .returned (.tuple #[]) ∧ Tw P w2 (PD b (S.crash ks tn)) B ∧ PUp P w w2 := by
  have hl := h.lt
  exact (h.call (α := Unit) (R := fun e _ => e = .returned (.tuple #[])) (A2 := fun _ => PD b (S.crash ks tn)) oB (fun F D hp => by
    refine (f_crash D m hm hmm ka kc ks (fun i hi => ?_) tn).mono ?_
    · obtain ⟨kb, ko, e1, e2, e3⟩ := hk i hi
      exact ⟨kb, ko, e1, fun hx => hp kb hx e2, hl kb e2, e3⟩
    · rintro e w2 ⟨f2, rfl, h1, M⟩
      exact ⟨(), f2, rfl, h1, M⟩)).mono (fun _ _ ⟨_, h⟩ => h)
theorem t_rcrash {A : World → List Nat → Prop} (h : Tw P w A (RD r S)) (oA : Own A) (m : Nat) (hm : S.Lim m) (hmm : m < 4294967295) (ka : Option Addr) (kc : Nat) (ks : List Bool) (hk : KeepP P w ka ks) (tn : Int) :
    Calls Tryz.prog 19 #[.pointer (some ⟨r, 0, none⟩), .slice ka ks.length kc, .int .i64 tn] w fun e w2 => e = .returned (.tuple #[]) ∧ Tw P w2 A (RD r (S.crash ks tn)) ∧ PUp P w w2 := by
  have hl := h.lt
  exact (h.callR (α := Unit) (R := fun e _ => e = .returned (.tuple #[])) (B2 := fun _ => RD r (S.crash ks tn)) oA (fun F D _ => by
    refine (g_crash D m hm hmm ka kc ks (fun i hi => ?_) tn).mono ?_
    · obtain ⟨kb, ko, e1, e2, e3⟩ := hk i hi
      exact ⟨kb, ko, e1, hl kb e2, e3⟩
    · rintro e w2 ⟨rfl, f2, h1, M⟩
      exact ⟨(), f2, rfl, h1, M⟩)).mono (fun _ _ ⟨_, h⟩ => h)
/-- A journal that has just been opened, with its records; the reference's. -/
def PO (b : Nat) (S : Dk) (J : Jn) (l : List ByteArray) (a : Nat × Value) (w : World) (F : List Nat) : Prop := ∃ f B, F = a.1 :: (a.2.ownBlock.toList ++ f) ∧ Opened w f b a.1 a.2 B S J l ∧ 7 ≤ a.1
def RO (r : Nat) (S : Dk) (J : Jn) (l : List ByteArray) (a : Nat × Value) (w : World) (G : List Nat) : Prop := ∃ g B, G = a.1 :: (a.2.ownBlock.toList ++ g) ∧ ROpened w g r a.1 a.2 B S J l ∧ 7 ≤ a.1
theorem own_lt {w : World} {B : Nat} {v : Value} {l : List ByteArray} (h : OwnStrs w B v l) {x : Nat} (hx : v.ownBlock = some x) : x < w.heap.size := by
  obtain ⟨a, c, _, _, h3⟩ := h.form
  exact (h3 x hx).2
theorem PO.own (b : Nat) (S : Dk) (J : Jn) (l : List ByteArray) (a : Nat × Value) : Own (PO b S J l a) := ⟨fun _ _ h x hx => by
    obtain ⟨f, B, rfl, h, _⟩ := h
    rcases List.mem_cons.1 hx with rfl | hx
    · exact h.j_.lt
    · rcases List.mem_append.1 hx with hx | hx
      · exact own_lt h.own (Option.mem_toList.1 hx)
      · exact (h.d.pos x hx).2, fun _ _ _ _ h k hd => by
    obtain ⟨f, B, rfl, h, hg⟩ := h
    exact ⟨f, B, rfl, ⟨h.d.keep k (fun x hx => hd x (List.mem_cons_of_mem _ (List.mem_append_right _ hx))), h.j_.keep k (hd _ (List.mem_cons_self ..)), k.owns h.own (fun g hgg hm => hd g (List.mem_cons_of_mem _ (List.mem_append_left _ (Option.mem_toList.2 hgg))) hm), h.jf, h.jB, h.vj, h.vf⟩, hg⟩⟩
theorem RO.own (r : Nat) (S : Dk) (J : Jn) (l : List ByteArray) (a : Nat × Value) : Own (RO r S J l a) := ⟨fun _ _ h x hx => by
    obtain ⟨f, B, rfl, h, _⟩ := h
    rcases List.mem_cons.1 hx with rfl | hx
    · exact h.q_.lt
    · rcases List.mem_append.1 hx with hx | hx
      · exact own_lt h.own (Option.mem_toList.1 hx)
      · exact (h.d.pos x hx).2, fun _ _ _ _ h k hd => by
    obtain ⟨f, B, rfl, h, hg⟩ := h
    exact ⟨f, B, rfl, ⟨h.d.keep k (fun x hx => hd x (List.mem_cons_of_mem _ (List.mem_append_right _ hx))), h.q_.keep k (hd _ (List.mem_cons_self ..)), k.owns h.own (fun g hgg hm => hd g (List.mem_cons_of_mem _ (List.mem_append_left _ (Option.mem_toList.2 hgg))) hm), h.qf, h.qB, h.vq, h.vf⟩, hg⟩⟩
theorem po_mv {w w2 : World} {f f2 : List Nat} {j : Nat} {v : Value} (M : Mv f w f2 w2) (hj : w.heap.size ≤ j) (hv : ∀ g, v.ownBlock = some g → w.heap.size ≤ g) : Mv f w (j :: (v.ownBlock.toList ++ f2)) w2 :=
  ⟨M.kp, fun x hx => by
    rcases List.mem_cons.1 hx with rfl | hx
    · exact .inr hj
    · rcases List.mem_append.1 hx with hx | hx
      · exact .inr (hv x (Option.mem_toList.1 hx))
      · exact M.sub x hx⟩
theorem own_ge {w : World} {B : Nat} {v : Value} {l : List ByteArray} (h : OwnStrs w B v l) : ∀ x, v.ownBlock = some x → B ≤ x := fun x hx => by
  obtain ⟨a, c, _, _, h3⟩ := h.form
  exact (h3 x hx).1
theorem count_b {S : Dk} {t : Nat} (hs : SecInv t S) (ht : t ≤ 1000000) : (countV S).1 ≤ 1 ∧ (countV S).2.1 ≤ 1000000 ∧ (countV S).2.2 ≤ 1 := by
  have := hs.count ht
  omega
theorem t_open_yes {B : World → List Nat → Prop} {m t : Nat} (h : Tw P w (PD b S) B) (oB : Own B) (hS : S.Fine m) (hm : m ≤ 1000000) (hs : SecInv t S) (ht : t ≤ 1000000) (hG : Gl w) (hE : S.OErr = 0) :
    Calls Tryz.prog 10 #[.pointer (some ⟨b, 0, none⟩)] w fun e w2 => ∃ a : Nat × Value, e = .returned (.tuple #[.pointer (some ⟨a.1, 0, none⟩), a.2, .nilIface]) ∧ Tw P w2 (PO b S.ODk S.oJn S.oUn.1 a) B ∧ PUp P w w2 :=
  h.call (α := Nat × Value) (R := fun e a => e = .returned (.tuple #[.pointer (some ⟨a.1, 0, none⟩), a.2, .nilIface])) (A2 := fun a => PO b S.ODk S.oJn S.oUn.1 a) oB (fun F D _ => by
    refine (Open_any D hS.n4 hG (count_b hs ht) m hS.ok.lim (by omega)).mono ?_
    rintro e w2 ⟨f2, M, ⟨h0, _⟩ | ⟨_, j, v, rfl, hO⟩⟩
    · exact absurd hE h0
    · have hg : 7 ≤ w.heap.size := by have := (DkF.pos D b (DkF.mem D)).1; have := (DkF.pos D b (DkF.mem D)).2; omega
      exact ⟨(j, v), _, rfl, ⟨f2, _, rfl, hO, Nat.le_trans hg hO.jB⟩, po_mv M hO.jB (own_ge hO.own)⟩)
theorem t_open_no {B : World → List Nat → Prop} {m t : Nat} (h : Tw P w (PD b S) B) (oB : Own B) (hS : S.Fine m) (hm : m ≤ 1000000) (hs : SecInv t S) (ht : t ≤ 1000000) (hG : Gl w) (hE : S.OErr = 10) :
    Calls Tryz.prog 10 #[.pointer (some ⟨b, 0, none⟩)] w fun e w2 => ∃ v, (e = .returned (.tuple #[.pointer none, .slice none 0 0, v]) ∧ CAns 10 v) ∧ Tw P w2 (PD b S.ODk) B ∧ PUp P w w2 :=
  h.call (α := Value) (R := fun e v => e = .returned (.tuple #[.pointer none, .slice none 0 0, v]) ∧ CAns 10 v) (A2 := fun _ => PD b S.ODk) oB (fun F D _ => by
    refine (Open_any D hS.n4 hG (count_b hs ht) m hS.ok.lim (by omega)).mono ?_
    rintro e w2 ⟨f2, M, ⟨_, ⟨v, rfl, hv⟩, hD⟩ | ⟨h0, _⟩⟩
    · rw [hE] at hv
      exact ⟨v, f2, ⟨rfl, hv.cans (by decide)⟩, hD, M⟩
    · rw [hE] at h0; exact absurd h0 (by decide))
theorem t_ropen_yes {A : World → List Nat → Prop} {m t : Nat} (h : Tw P w A (RD r S)) (oA : Own A) (hS : S.Fine m) (hm : m ≤ 1000000) (hs : SecInv t S) (ht : t ≤ 1000000) (hE : S.OErr = 0) :
    Calls Tryz.prog 11 #[.pointer (some ⟨r, 0, none⟩)] w fun e w2 => ∃ a : Nat × Value, e = .returned (.tuple #[.pointer (some ⟨a.1, 0, none⟩), a.2, .int .i64 0]) ∧ Tw P w2 A (RO r S.ODk S.oJn S.oUn.1 a) ∧ PUp P w w2 :=
  h.callR (α := Nat × Value) (R := fun e a => e = .returned (.tuple #[.pointer (some ⟨a.1, 0, none⟩), a.2, .int .i64 0])) (B2 := fun a => RO r S.ODk S.oJn S.oUn.1 a) oA (fun F D _ => by
    refine (ropen_any D hS hm hs ht).mono ?_
    rintro e w2 ⟨f2, M, ⟨h0, _⟩ | ⟨_, q, v, rfl, hO⟩⟩
    · rw [hE] at h0; exact absurd h0 (by decide)
    · have hg : 7 ≤ w.heap.size := by have := (RkF.pos D r (RkF.mem D)).1; have := (RkF.pos D r (RkF.mem D)).2; omega
      exact ⟨(q, v), _, rfl, ⟨f2, _, rfl, hO, Nat.le_trans hg hO.qB⟩, po_mv M hO.qB (own_ge hO.own)⟩)
theorem t_ropen_no {A : World → List Nat → Prop} {m t : Nat} (h : Tw P w A (RD r S)) (oA : Own A) (hS : S.Fine m) (hm : m ≤ 1000000) (hs : SecInv t S) (ht : t ≤ 1000000) (hE : S.OErr = 10) :
    Calls Tryz.prog 11 #[.pointer (some ⟨r, 0, none⟩)] w fun e w2 => e = .returned (.tuple #[.pointer none, .slice none 0 0, .int .i64 10]) ∧ Tw P w2 A (RD r S.ODk) ∧ PUp P w w2 :=
  (h.callR (α := Unit) (R := fun e _ => e = .returned (.tuple #[.pointer none, .slice none 0 0, .int .i64 10])) (B2 := fun _ => RD r S.ODk) oA (fun F D _ => by
    refine (ropen_any D hS hm hs ht).mono ?_
    rintro e w2 ⟨f2, M, ⟨_, rfl, hD⟩ | ⟨h0, _⟩⟩
    · exact ⟨(), f2, rfl, hD, M⟩
    · rw [hE] at h0; exact absurd h0 (by decide))).mono (fun _ _ ⟨_, h⟩ => h)
theorem Tw.lists {l : List ByteArray} {a a2 : Nat × Value} (h : Tw P w (PO b S J l a) (RO r S J l a2)) : ∃ x c x2 c2, a.2 = .slice x l.length c ∧ a2.2 = .slice x2 l.length c2 ∧ StrsAt w w.heap.size x l.length (fun i => l.getD i ⟨#[]⟩) ∧ StrsAt w w.heap.size x2 l.length (fun i => l.getD i ⟨#[]⟩) := by
  obtain ⟨⟨F, G, ⟨f, B, _, h1, _⟩, ⟨g, B2, _, h2, _⟩, _⟩, _⟩ := h
  obtain ⟨x, c, e1, e2, _⟩ := h1.own.form
  obtain ⟨x2, c2, e3, e4, _⟩ := h2.own.form
  exact ⟨x, c, x2, c2, e1, e3, e2, e4⟩
theorem Tw.opened {l : List ByteArray} {a a2 : Nat × Value} (h : Tw P w (PO b S J l a) (RO r S J l a2)) : Tw P w (PJ b a.1 S J false) (RJ r a2.1 S J false) :=
  ((h.weak (A2 := PJ b a.1 S J false) (fun F ⟨f, B, hf, O, hg⟩ => ⟨a.1 :: f, ⟨f, rfl, O.d, O.j_, O.jf, hg⟩, fun x hx => by
    rw [hf]
    rcases List.mem_cons.1 hx with rfl | hx
    · exact List.mem_cons_self ..
    · exact List.mem_cons_of_mem _ (List.mem_append_right _ hx)⟩)).swap.weak (A2 := RJ r a2.1 S J false) (fun F ⟨f, B, hf, O, hg⟩ => ⟨a2.1 :: f, ⟨f, rfl, O.d, O.q_, O.qf, hg⟩, fun x hx => by
    rw [hf]
    rcases List.mem_cons.1 hx with rfl | hx
    · exact List.mem_cons_self ..
    · exact List.mem_cons_of_mem _ (List.mem_append_right _ hx)⟩)).swap
theorem Answers.cans {c : Int} {v : Value} (h : Answers c v) : CAns c v := by
  rcases h with ⟨h1, h2⟩ | ⟨h1, h2⟩
  · exact .inl ⟨h1, h2⟩
  · exact .inr ⟨.inl h1, h2⟩
/-- Reads of both, anywhere behind w0. -/
theorem t_read {B : World → List Nat → Prop} {w0 : World} (h : Tw P w0 (PD b S) B) (K : Kp [] w0 w) (hG : Gl w0) (p : Int) (h0 : -9223372036854775808 ≤ p) (h1 : p ≤ 9223372036854775807) :
    Calls Tryz.prog 25 #[.pointer (some ⟨b, 0, none⟩), .int .i64 p] w fun e w2 => ∃ v, e = .returned (.tuple #[.string (S.rbytes p), v]) ∧ CAns (S.rerr p) v ∧ Kp [] w w2 := by
  obtain ⟨⟨F, G, D, _⟩, _⟩ := h
  refine (f_read (DkF.kept D K) p h0 h1 (hG.kept K)).mono ?_
  rintro e w2 ⟨v, h2, h3, h4⟩
  exact ⟨v, h2, h3.cans, h4⟩
theorem t_rread {A : World → List Nat → Prop} {w0 : World} (h : Tw P w0 A (RD r S)) (K : Kp [] w0 w) {m : Nat} (ok : S.Ok m) (hm : m < 4294967295) (p : Int) :
    Calls Tryz.prog 26 #[.pointer (some ⟨r, 0, none⟩), .int .i64 p] w fun e w2 => e = .returned (.tuple #[.string (S.rbytes p), .int .i64 (S.rerr p)]) ∧ w = w2 := by
  obtain ⟨⟨F, G, _, D, _⟩, _⟩ := h
  rw [ok.same p]
  exact g_read (RkF.kept D K) p m ok.lim hm
/-- What the walk loads and asks for at the end of a round. -/
theorem Tw.ends {A : World → List Nat → Prop} (h : Tw P w A (RD r S)) : w.cell? ⟨r, 3, none⟩ = some (.int .i64 (S.writes : Int)) := by
  obtain ⟨⟨F, G, _, ⟨_, sv, av, bv, _, R⟩, _⟩, _⟩ := h
  exact R.c3
theorem Tw.count {A : World → List Nat → Prop} (h : Tw P w A (RJ r q S J dd)) : w.cell? ⟨q, 5, none⟩ = some (.int .i64 (J.count : Int)) := by
  obtain ⟨⟨F, G, _, ⟨g, _, R⟩, _⟩, _⟩ := h
  exact R.q_.c5
theorem t_len {B : World → List Nat → Prop} {w0 : World} (h : Tw P w0 (PJ b j S J dd) B) (K : Kp [] w0 w) :
    Calls Tryz.prog 23 #[.pointer (some ⟨j, 0, none⟩)] w fun e w2 => e = .returned (.int .i64 (J.count : Int)) ∧ w2 = w := by
  obtain ⟨⟨F, G, ⟨f, _, D⟩, _⟩, _⟩ := h
  exact JLen_any (D.j_.kept K)
theorem t_writes {B : World → List Nat → Prop} {w0 : World} (h : Tw P w0 (PD b S) B) (K : Kp [] w0 w) :
    Calls Tryz.prog 24 #[.pointer (some ⟨b, 0, none⟩)] w fun e w2 => e = .returned (.int .i64 (S.writes : Int)) ∧ w2 = w := by
  obtain ⟨⟨F, G, D, _⟩, _⟩ := h
  refine (f_writes (DkF.kept D K)).mono ?_
  rintro e w2 ⟨h1, h2⟩
  exact ⟨h1, h2.symm⟩
theorem Tw.sec {B : World → List Nat → Prop} (h : Tw P w (PD b S) B) : ∀ i, i < S.n → (S.C i).length = 64 := fun i hi => by
  obtain ⟨⟨F, G, D, _⟩, _⟩ := h
  exact (DkF.sec D i hi).1
set_option maxHeartbeats 3200000 in
set_option maxRecDepth 20000 in
theorem same_texts (a a2 : Option Addr) (n c c2 : Nat) (hn : n ≤ 100000) (sx sy : Nat → ByteArray) (w : World) (hR : StrsAt w w.heap.size a n sx) (hR2 : StrsAt w w.heap.size a2 n sy) (hs : ∀ i, i < n → sx i = sy i) :
    Calls Tryz.prog 20 #[.slice a n c, .slice a2 n c2] w fun e w2 => e = .returned (.bool true) ∧ Kp [] w w2 := by
  have HR := Lib.hid hR
  have HR2 := Lib.hid hR2
  have HS := Lib.hid hs
  clear hR hR2 hs
  go_enter Tryz.func20, Tryz.ntmps20
  go_wp2_with fail
  go_loopw [5] (fun i wr => ∃ (k : Nat), k ≤ n ∧ i = .int .i64 (k : Int) ∧ Hid (Kp [] w wr)) (fun i _ => n - (intOf i).toNat)
  case atStart => exact ⟨0, Nat.zero_le _, rfl, Kp.refl _ _⟩
  case round =>
    obtain ⟨k, hk, rfl, HK⟩ := hrel
    by_cases hlt : k < n
    · have l1 : decide ((k : Int) < (n : Int)) = true := by simpa using hlt
      have l1' : decide (k < n) = true := by simpa using hlt
      obtain ⟨g, o, rfl, hg, hc⟩ := HR.out k hlt
      obtain ⟨g2, o2, rfl, hg2, hc2⟩ := HR2.out k hlt
      rw [← HS.out k hlt] at hc2
      obtain ⟨s, hs⟩ : ∃ s, s = sx k := ⟨_, rfl⟩
      rw [← hs] at hc hc2
      clear hs
      have Kd : Kp [] w wr.drew := HK.out.drew
      have d1 : wr.drew.cell? ⟨g, o + k, none⟩ = some (.string s) := (Kd.cell0 hg).trans hc
      have d2 : wr.drew.cell? ⟨g2, o2 + k, none⟩ = some (.string s) := (Kd.cell0 hg2).trans hc2
      have HKd := Lib.hid Kd
      clear Kd hc hc2 HK
      go_wp2_with fail
      go_region_held3 (fun w' => w'.cell? ⟨g, o + k, none⟩ = some (.string s) ∧ w'.cell? ⟨g2, o2 + k, none⟩ = some (.string s)) (exact ⟨d1, d2⟩) (fail)
      all_goals
        go_wp2_with fail
        go_roundw
        case rel => exact ⟨k + 1, by omega, by go_num, HKd⟩
        case measure => simp [intOf]; omega
    · have l1 : decide ((k : Int) < (n : Int)) = false := by simpa using hlt
      have l1' : decide (k < n) = false := by simpa using hlt
      obtain rfl : k = n := by omega
      clear hlt
      go_wp2_with fail
      go_ret
      exact ⟨rfl, HK.out⟩
end Go.Proofs.YtggnljfcdohkaaaGreatDoor
