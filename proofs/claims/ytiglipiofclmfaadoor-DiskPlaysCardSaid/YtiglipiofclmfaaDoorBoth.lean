/- A disk and the reference's disk beside one another in memory: the contracts of both, as the law's walk uses them. -/
import Derived.Test.YtiglipiofclmfaaDoorRefC
import Derived.Test.YtiglipiofclmfaaDoorDmAs
namespace Go.Proofs.YtiglipiofclmfaaDoor
open Go.RowKit

/-- What lies in the blocks of P is as it was. -/
structure PUp (P : Nat → Prop) (w w2 : World) : Prop where
  os : w2.os = w.os
  tape : w2.tape = w.tape
  output : w2.output = w.output
  size : w.heap.size ≤ w2.heap.size
  block : ∀ k, P k → w2.heap[k]? = w.heap[k]?
theorem PUp.refl (P : Nat → Prop) (w : World) : PUp P w w := ⟨rfl, rfl, rfl, Nat.le_refl _, fun _ _ => rfl⟩
theorem PUp.trans {P : Nat → Prop} {a b c : World} (h : PUp P a b) (k : PUp P b c) : PUp P a c :=
  ⟨k.os.trans h.os, k.tape.trans h.tape, k.output.trans h.output, Nat.le_trans h.size k.size, fun x hx => (k.block x hx).trans (h.block x hx)⟩
theorem Kp.pup {f : List Nat} {w w2 : World} (h : Kp f w w2) {P : Nat → Prop} (hl : ∀ x, P x → x < w.heap.size) (hf : ∀ x ∈ f, ¬ P x) : PUp P w w2 :=
  ⟨h.os, h.tape, h.output, h.size, fun k hk => h.block k (hl k hk) (fun hm => hf k hm hk)⟩
theorem PUp.mono {P Q : Nat → Prop} {w w2 : World} (h : PUp P w w2) (hq : ∀ x, Q x → P x) : PUp Q w w2 := ⟨h.os, h.tape, h.output, h.size, fun k hk => h.block k (hq k hk)⟩
theorem PUp.cell {P : Nat → Prop} {w w2 : World} (h : PUp P w w2) {g o : Nat} (hg : P g) : w2.cell? ⟨g, o, none⟩ = w.cell? ⟨g, o, none⟩ := World.cell?_of_block (w := w) (h.block g hg)
theorem PUp.frozen {P : Nat → Prop} {w w2 : World} (h : PUp P w w2) {g o : Nat} (hg : P g) : w2.frozen? ⟨g, o, none⟩ = w.frozen? ⟨g, o, none⟩ := World.frozen?_of_block (w := w) (h.block g hg)
theorem PUp.up {P : Nat → Prop} {w w2 : World} (h : PUp P w w2) {B : Nat} (hB : ∀ x, x < B → P x) : Up B w w2 := ⟨h.os.symm, h.tape.symm, h.output.symm, h.size, fun k hk _ => h.block k (hB k hk)⟩
theorem PUp.tab {P : Nat → Prop} {w w2 : World} (h : PUp P w w2) (hB : ∀ x, x < 4 → P x) (ht : Tab w) : Tab w2 := (h.up hB).tab ht (Nat.le_refl _)
theorem PUp.has {P : Nat → Prop} {w w2 : World} (h : PUp P w w2) (hB : ∀ x, x < 4 → P x) (ht : EHas w) : EHas w2 :=
  ⟨(h.cell (hB _ (by decide))).trans ht.1, Nat.lt_of_lt_of_le ht.2 h.size⟩

/-- A disk in state S, the reference's in state T, apart from one another and from the blocks of P. -/
structure Both (P : Nat → Prop) (w : World) (b r : Nat) (S T : Dk) : Prop where
  ex : ∃ bf bc lv sv av bv, DkAt w b bf bc lv S ∧ RfAt w r sv av bv T ∧ (∀ x ∈ foot b bf bc lv, x ∉ rfoot r sv av bv) ∧ (∀ x ∈ foot b bf bc lv, ¬ P x) ∧ ∀ x ∈ rfoot r sv av bv, ¬ P x
  lt : ∀ x, P x → x < w.heap.size
theorem DkAt.foot_lt2 {w : World} {b bf bc : Nat} {lv : Value} {S : Dk} (h : DkAt w b bf bc lv S) : ∀ x ∈ foot b bf bc lv, x < w.heap.size := fun x hx => h.foot_lt x hx
theorem Both.keep {P : Nat → Prop} {w w2 : World} {b r : Nat} {S T : Dk} (h : Both P w b r S T) (k : Kp [] w w2) : Both P w2 b r S T ∧ PUp P w w2 := by
  obtain ⟨⟨bf, bc, lv, sv, av, bv, D, R, h1, h2, h3⟩, hl⟩ := h
  exact ⟨⟨⟨bf, bc, lv, sv, av, bv, D.new k, R.new k, h1, h2, h3⟩, fun x hx => k.lt (hl x hx)⟩, k.pup hl (fun x hx => by cases hx)⟩
/-- A block more that is neither disk's. -/
theorem Both.more {P : Nat → Prop} {w : World} {b r : Nat} {S T : Dk} (h : Both P w b r S T) (o : Obj) : Both (fun x => P x ∨ x = w.heap.size) (w.alloc o) b r S T := by
  obtain ⟨⟨bf, bc, lv, sv, av, bv, D, R, h1, h2, h3⟩, hl⟩ := h
  have k : Kp [] w (w.alloc o) := (Kp.refl [] w).alloc o
  refine ⟨⟨bf, bc, lv, sv, av, bv, D.new k, R.new k, h1, fun x hx hp => ?_, fun x hx hp => ?_⟩, fun x hx => ?_⟩
  · rcases hp with hp | hp
    · exact h2 x hx hp
    · have := D.foot_lt2 x hx; omega
  · rcases hp with hp | hp
    · exact h3 x hx hp
    · have := (R.foot_lt x hx).2; omega
  · rcases hx with hx | hx
    · exact k.lt (hl x hx)
    · have : w.heap.size < (w.alloc o).heap.size := by simp
      omega
theorem Both.less {P Q : Nat → Prop} {w : World} {b r : Nat} {S T : Dk} (h : Both P w b r S T) (hq : ∀ x, Q x → P x) : Both Q w b r S T := by
  obtain ⟨⟨bf, bc, lv, sv, av, bv, D, R, h1, h2, h3⟩, hl⟩ := h
  exact ⟨⟨bf, bc, lv, sv, av, bv, D, R, h1, fun x hx hp => h2 x hx (hq x hp), fun x hx hp => h3 x hx (hq x hp)⟩, fun x hx => hl x (hq x hx)⟩
theorem foot_of_then {b bf bc : Nat} {lv lv2 : Value} {w : World} (hat : ∀ g, lv2.ownBlock = some g → lv.ownBlock = some g ∨ w.heap.size ≤ g) : ∀ x ∈ foot b bf bc lv2, x ∈ foot b bf bc lv ∨ w.heap.size ≤ x := fun x hx => by
  simp only [foot, List.mem_cons, Option.mem_toList] at hx ⊢
  rcases hx with rfl | rfl | rfl | hx
  · exact .inl (.inl rfl)
  · exact .inl (.inr (.inl rfl))
  · exact .inl (.inr (.inr (.inl rfl)))
  · rcases hat x hx with h | h
    · exact .inl (.inr (.inr (.inr h)))
    · exact .inr h
/-- The disk has been changed. -/
theorem Both.dk {P : Nat → Prop} {w w2 : World} {b r bf bc : Nat} {lv lv2 sv av bv : Value} {S2 T : Dk} (R : RfAt w r sv av bv T) (h1 : ∀ x ∈ foot b bf bc lv, x ∉ rfoot r sv av bv) (h2 : ∀ x ∈ foot b bf bc lv, ¬ P x) (h3 : ∀ x ∈ rfoot r sv av bv, ¬ P x) (hl : ∀ x, P x → x < w.heap.size)
    (D2 : DkAt w2 b bf bc lv2 S2) (K : Kp (foot b bf bc lv) w w2) (hf : ∀ x ∈ foot b bf bc lv2, x ∈ foot b bf bc lv ∨ w.heap.size ≤ x) : Both P w2 b r S2 T ∧ PUp P w w2 := by
  refine ⟨⟨⟨bf, bc, lv2, sv, av, bv, D2, R.keep K (fun x hx hm => h1 x hm hx), fun x hx hm => ?_, fun x hx hp => ?_, h3⟩, fun x hx => Nat.lt_of_lt_of_le (hl x hx) K.size⟩, K.pup hl h2⟩
  · rcases hf x hx with h | h
    · exact h1 x h hm
    · have := (R.foot_lt x hm).2; omega
  · rcases hf x hx with h | h
    · exact h2 x h hp
    · have := hl x hp; omega
/-- The reference's disk has been changed. -/
theorem Both.rf {P : Nat → Prop} {w w2 : World} {b r bf bc : Nat} {lv sv av bv : Value} {S T2 : Dk} (D : DkAt w b bf bc lv S) (h1 : ∀ x ∈ foot b bf bc lv, x ∉ rfoot r sv av bv) (h2 : ∀ x ∈ foot b bf bc lv, ¬ P x) (h3 : ∀ x ∈ rfoot r sv av bv, ¬ P x) (hl : ∀ x, P x → x < w.heap.size)
    (h : RfThen2 r sv av bv T2 w w2) : Both P w2 b r S T2 ∧ PUp P w w2 := by
  obtain ⟨sv2, av2, bv2, R2, K, hf⟩ := h
  refine ⟨⟨⟨bf, bc, lv, sv2, av2, bv2, D.keep K (fun x hx hm => h1 x hx hm), R2, fun x hx hm => ?_, h2, fun x hx hp => ?_⟩, fun x hx => Nat.lt_of_lt_of_le (hl x hx) K.size⟩, K.pup hl h3⟩
  · rcases hf x hm with h | h
    · exact h1 x hx h
    · have := D.foot_lt2 x hx; omega
  · rcases hf x hx with h | h
    · exact h3 x h hp
    · have := hl x hp; omega
variable {P : Nat → Prop} {w : World} {b r : Nat} {S T : Dk}
theorem two_write (h : Both P w b r S T) (p : Int) (s : ByteArray) (h0 : -9223372036854775808 ≤ p) (h1 : p ≤ 9223372036854775807) (ht : Tab w) (hs : S.Small) :
    Calls Tryd.prog 8 #[.pointer (some ⟨b, 0, none⟩), .int .i64 p, .string s] w fun e w2 => (∃ v, e = .returned v ∧ Answers (S.werr p s.size) v) ∧ Both P w2 b r (S.wrote p s) T ∧ PUp P w w2 := by
  obtain ⟨⟨bf, bc, lv, sv, av, bv, D, R, h1', h2, h3⟩, hl⟩ := h
  refine (write_any w b bf bc lv S D p s h0 h1 ht hs.1 hs.2.1 hs.2.2).mono ?_
  rintro e w2 ⟨ha, lv2, D2, K, hat⟩
  exact ⟨ha, Both.dk R h1' h2 h3 hl D2 K (foot_of_then hat)⟩
theorem two_rwrite (h : Both P w b r S T) (p : Int) (s : ByteArray) (hs : T.Small) :
    Calls Tryd.prog 9 #[.pointer (some ⟨r, 0, none⟩), .int .i64 p, .string s] w fun e w2 => e = .returned (.int .i64 (T.werr p s.size)) ∧ Both P w2 b r S (T.wrote p s) ∧ PUp P w w2 := by
  obtain ⟨⟨bf, bc, lv, sv, av, bv, D, R, h1, h2, h3⟩, hl⟩ := h
  refine (rfwrite_any w r sv av bv T R p s hs.1 hs.2.2 hs.2.1).mono ?_
  rintro e w2 ⟨he, ht⟩
  exact ⟨he, Both.rf D h1 h2 h3 hl ht⟩
theorem two_flush (h : Both P w b r S T) (hd : S.dead = false) (hs : S.Small) :
    Calls Tryd.prog 10 #[.pointer (some ⟨b, 0, none⟩)] w fun e w2 => e = .returned .nilIface ∧ Both P w2 b r { S with F := lay S.F S.L, L := [] } T ∧ PUp P w w2 := by
  obtain ⟨⟨bf, bc, lv, sv, av, bv, D, R, h1, h2, h3⟩, hl⟩ := h
  refine (flush_ok D hd hs.2.2).mono ?_
  rintro e w2 ⟨rfl, D2, K⟩
  exact ⟨rfl, Both.dk R h1 h2 h3 hl D2 K (foot_of_then (fun g hg => by cases hg))⟩
theorem two_flush_dead (h : Both P w b r S T) (hd : S.dead = true) :
    Calls Tryd.prog 10 #[.pointer (some ⟨b, 0, none⟩)] w fun e w2 => (∃ v, e = .returned v ∧ IsRef 25 v) ∧ Both P w2 b r S T ∧ PUp P w w2 := by
  have hh := h
  obtain ⟨⟨bf, bc, lv, sv, av, bv, D, R, h1, h2, h3⟩, hl⟩ := h
  have h4 := D.c4
  rw [hd] at h4
  refine (flush_dead h4).mono ?_
  rintro e w2 ⟨hv, hk⟩
  exact ⟨hv, hh.keep hk⟩
theorem two_rflush (h : Both P w b r S T) (hd : T.dead = false) (hs : T.Small) (hn : 1 ≤ T.n) :
    Calls Tryd.prog 11 #[.pointer (some ⟨r, 0, none⟩)] w fun e w2 => e = .returned (.int .i64 0) ∧ Both P w2 b r S { T with F := lay T.F T.L, L := [] } ∧ PUp P w w2 := by
  obtain ⟨⟨bf, bc, lv, sv, av, bv, D, R, h1, h2, h3⟩, hl⟩ := h
  refine (rfflush_any w r sv av bv T R hn hs.2.2 hd).mono ?_
  rintro e w2 ⟨he, ht⟩
  exact ⟨he, Both.rf D h1 h2 h3 hl ht⟩
theorem two_rflush_dead (h : Both P w b r S T) (hd : T.dead = true) :
    Calls Tryd.prog 11 #[.pointer (some ⟨r, 0, none⟩)] w fun e w2 => e = .returned (.int .i64 25) ∧ w = w2 := by
  obtain ⟨⟨bf, bc, lv, sv, av, bv, D, R, h1, h2, h3⟩, hl⟩ := h
  exact rfflush_dead w r sv av bv T R hd
theorem two_cut (h : Both P w b r S T) (p : Int) :
    Calls Tryd.prog 12 #[.pointer (some ⟨b, 0, none⟩), .int .i64 p] w fun e w2 => e = .returned (.tuple #[]) ∧ Both P w2 b r (S.cutAt p) T ∧ PUp P w w2 := by
  obtain ⟨⟨bf, bc, lv, sv, av, bv, D, R, h1, h2, h3⟩, hl⟩ := h
  refine (cut_any D p).mono ?_
  rintro e w2 ⟨rfl, D2, K⟩
  exact ⟨rfl, Both.dk R h1 h2 h3 hl D2 K (fun x hx => .inl hx)⟩
theorem two_rcut (h : Both P w b r S T) (p : Int) :
    Calls Tryd.prog 13 #[.pointer (some ⟨r, 0, none⟩), .int .i64 p] w fun e w2 => e = .returned (.tuple #[]) ∧ Both P w2 b r S (T.cutAt p) ∧ PUp P w w2 := by
  obtain ⟨⟨bf, bc, lv, sv, av, bv, D, R, h1, h2, h3⟩, hl⟩ := h
  refine (rfcut_any w r sv av bv T R p).mono ?_
  rintro e w2 ⟨he, ht⟩
  exact ⟨he, Both.rf D h1 h2 h3 hl ht⟩
/-- A []bool that is handed over, in blocks of P. -/
def KeepP (P : Nat → Prop) (w : World) (a : Option Addr) (ks : List Bool) : Prop :=
  ∀ i, i < ks.length → ∃ kb ko, a = some ⟨kb, ko, none⟩ ∧ P kb ∧ w.cell? ⟨kb, ko + i, none⟩ = some (.bool (ks.getD i false))
theorem KeepP.up {w2 : World} {a : Option Addr} {ks : List Bool} (h : KeepP P w a ks) (u : PUp P w w2) : KeepP P w2 a ks := fun i hi => by
  obtain ⟨kb, ko, h1, h2, h3⟩ := h i hi
  exact ⟨kb, ko, h1, h2, (u.cell h2).trans h3⟩
theorem two_crash (h : Both P w b r S T) (hs : S.Small) (ka : Option Addr) (kc : Nat) (ks : List Bool) (hk : KeepP P w ka ks) (tn : Int) :
    Calls Tryd.prog 14 #[.pointer (some ⟨b, 0, none⟩), .slice ka ks.length kc, .int .i64 tn] w fun e w2 => e = .returned (.tuple #[]) ∧ Both P w2 b r (S.crash ks tn) T ∧ PUp P w w2 := by
  obtain ⟨⟨bf, bc, lv, sv, av, bv, D, R, h1, h2, h3⟩, hl⟩ := h
  refine (crash_any D hs.2.2 ka kc ks (fun i hi => ?_) tn).mono ?_
  · obtain ⟨kb, ko, e1, e2, e3⟩ := hk i hi
    exact ⟨kb, ko, e1, fun hm => h2 kb hm e2, hl kb e2, e3⟩
  · rintro e w2 ⟨rfl, D2, K⟩
    exact ⟨rfl, Both.dk R h1 h2 h3 hl D2 K (foot_of_then (fun g hg => by cases hg))⟩
theorem two_rcrash (h : Both P w b r S T) (hs : T.Small) (hn : 1 ≤ T.n) (ka : Option Addr) (kc : Nat) (ks : List Bool) (hk : KeepP P w ka ks) (tn : Int) :
    Calls Tryd.prog 15 #[.pointer (some ⟨r, 0, none⟩), .slice ka ks.length kc, .int .i64 tn] w fun e w2 => e = .returned (.tuple #[]) ∧ Both P w2 b r S (T.crash ks tn) ∧ PUp P w w2 := by
  obtain ⟨⟨bf, bc, lv, sv, av, bv, D, R, h1, h2, h3⟩, hl⟩ := h
  refine (rfcrash_any w r sv av bv T R hn hs.2.2 ka kc ks (fun i hi => ?_) tn).mono ?_
  · obtain ⟨kb, ko, e1, e2, e3⟩ := hk i hi
    exact ⟨kb, ko, e1, hl kb e2, e3⟩
  · rintro e w2 ⟨he, ht⟩
    exact ⟨he, Both.rf D h1 h2 h3 hl ht⟩
theorem two_read (h : Both P w b r S T) (p : Int) (h0 : -9223372036854775808 ≤ p) (h1 : p ≤ 9223372036854775807) (ht : Tab w) :
    Calls Tryd.prog 19 #[.pointer (some ⟨b, 0, none⟩), .int .i64 p] w fun e w2 => (∃ v, e = .returned (.tuple #[.string (S.rbytes p), v]) ∧ Answers (S.rerr p) v) ∧ Both P w2 b r S T ∧ PUp P w w2 := by
  have hh := h
  obtain ⟨⟨bf, bc, lv, sv, av, bv, D, R, h1', h2, h3⟩, hl⟩ := h
  refine (read_any D p h0 h1 ht).mono ?_
  rintro e w2 ⟨hv, hk⟩
  exact ⟨hv, hh.keep hk⟩
theorem two_rread (h : Both P w b r S T) (p : Int) (hs : T.Small) :
    Calls Tryd.prog 20 #[.pointer (some ⟨r, 0, none⟩), .int .i64 p] w fun e w2 => e = .returned (.tuple #[.string (T.lbytes p), .int .i64 (T.rerr p)]) ∧ w = w2 := by
  obtain ⟨⟨bf, bc, lv, sv, av, bv, D, R, h1, h2, h3⟩, hl⟩ := h
  exact rfread_any w r sv av bv T R p hs.2.2
theorem two_code (c : Int) (v : Value) (hv : Answers c v) (w : World) (hE : EHas w) :
    Calls Tryd.prog 7 #[v] w fun e w2 => e = .returned (.int .i64 c) ∧ Kp [] w w2 := by
  rcases hv with ⟨rfl, rfl⟩ | ⟨hv, _⟩
  · exact code_nil w
  · exact code_ferr v c hv w hE
end Go.Proofs.YtiglipiofclmfaaDoor
