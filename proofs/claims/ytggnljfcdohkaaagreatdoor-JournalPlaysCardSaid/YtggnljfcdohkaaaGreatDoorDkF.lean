/- The contracts of package disk by the blocks that a disk lies in: for callers that hold blocks of their own. -/
import Derived.Test.YtggnljfcdohkaaaGreatDoorDkUse
import Derived.Test.YtggnljfcdohkaaaGreatDoorPkT
namespace Go.Proofs.YtggnljfcdohkaaaGreatDoor
open Go.RowKit

/-- A disk that lies in the blocks of f. -/
def DkF (w : World) (f : List Nat) (b : Nat) (S : Dk) : Prop := ∃ bf bc lv, f = foot b bf bc lv ∧ DkAt w b bf bc lv S
/-- From w to w2 nothing but the blocks of f has changed; then it lies in f2. -/
structure Mv (f : List Nat) (w : World) (f2 : List Nat) (w2 : World) : Prop where
  kp : Kp f w w2
  sub : ∀ x ∈ f2, x ∈ f ∨ w.heap.size ≤ x
theorem Mv.refl (f : List Nat) (w : World) : Mv f w f w := ⟨Kp.refl f w, fun _ h => .inl h⟩
theorem Mv.of_kp {w w2 : World} (k : Kp [] w w2) (f : List Nat) : Mv f w f w2 := ⟨k.mono (fun _ h => by cases h), fun _ h => .inl h⟩
theorem Mv.trans {f g h : List Nat} {a b c : World} (m : Mv f a g b) (n : Mv g b h c) : Mv f a h c :=
  ⟨m.kp.trans2 n.kp m.sub, fun x hx => by
    rcases n.sub x hx with hx | hx
    · exact m.sub x hx
    · exact .inr (Nat.le_trans m.kp.size hx)⟩
theorem Mv.kp0 {f g : List Nat} {a b c : World} (m : Mv f a g b) (n : Kp [] b c) : Mv f a g c := m.trans (Mv.of_kp n g)
/-- What is neither in f nor new stays apart. -/
theorem Mv.apart {f g : List Nat} {w w2 : World} (m : Mv f w g w2) {x : Nat} (h1 : x ∉ f) (h2 : x < w.heap.size) : x ∉ g := fun hm => by
  rcases m.sub x hm with h | h
  · exact h1 h
  · omega
theorem Mv.cell {f g : List Nat} {w w2 : World} (m : Mv f w g w2) {x o : Nat} (h1 : x ∉ f) (h2 : x < w.heap.size) : w2.cell? ⟨x, o, none⟩ = w.cell? ⟨x, o, none⟩ := m.kp.cell (p := ⟨x, o, none⟩) h2 h1
/-- A block more that belongs to it. -/
theorem Mv.more {f g : List Nat} {w w2 : World} (m : Mv f w g w2) (j : Nat) : Mv (j :: f) w (j :: g) w2 :=
  ⟨m.kp.mono (fun x h => List.mem_cons_of_mem _ h), fun x hx => by
    rcases List.mem_cons.1 hx with rfl | hx
    · exact .inl (List.mem_cons_self ..)
    · rcases m.sub x hx with h | h
      · exact .inl (List.mem_cons_of_mem _ h)
      · exact .inr h⟩
/-- Where all of it is new. -/
theorem Mv.fresh {f g : List Nat} {w0 w w2 : World} (m : Mv f w g w2) (k : Kp [] w0 w) (hf : ∀ x ∈ f, w0.heap.size ≤ x) : Kp [] w0 w2 ∧ ∀ x ∈ g, w0.heap.size ≤ x :=
  ⟨k.trans2 m.kp (fun x hx => .inr (hf x hx)), fun x hx => by
    rcases m.sub x hx with h | h
    · exact hf x h
    · exact Nat.le_trans k.size h⟩

theorem DkF.pos {w : World} {f : List Nat} {b : Nat} {S : Dk} (h : DkF w f b S) : ∀ x ∈ f, 7 ≤ x ∧ x < w.heap.size := by
  obtain ⟨bf, bc, lv, rfl, D⟩ := h
  intro x hx
  simp only [foot, List.mem_cons, Option.mem_toList] at hx
  rcases hx with rfl | rfl | rfl | hx
  · exact ⟨D.hb, D.lb⟩
  · exact ⟨D.hf, D.lf⟩
  · exact ⟨D.hc, D.lc⟩
  · exact D.ll x hx
theorem DkF.keep {w w2 : World} {f g : List Nat} {b : Nat} {S : Dk} (h : DkF w f b S) (k : Kp g w w2) (hd : ∀ x ∈ f, x ∉ g) : DkF w2 f b S := by
  obtain ⟨bf, bc, lv, rfl, D⟩ := h
  exact ⟨bf, bc, lv, rfl, D.keep k hd⟩
theorem DkF.kept {w w2 : World} {f : List Nat} {b : Nat} {S : Dk} (h : DkF w f b S) (k : Kp [] w w2) : DkF w2 f b S := h.keep k (by simp)
theorem DkF.len {w : World} {f : List Nat} {b : Nat} {S : Dk} (h : DkF w f b S) : w.cell? ⟨b, 1, none⟩ = some (.slice (some ⟨h.choose_spec.choose, 0, none⟩) S.n S.n) := by
  obtain ⟨lv, hf, D⟩ := h.choose_spec.choose_spec
  exact D.c1
theorem DkF.len' {w : World} {f : List Nat} {b : Nat} {S : Dk} (h : DkF w f b S) : ∃ a, w.cell? ⟨b, 1, none⟩ = some (.slice a S.n S.n) := ⟨_, h.len⟩
theorem DkF.n2 {w : World} {f : List Nat} {b : Nat} {S : Dk} (h : DkF w f b S) : 1 ≤ S.n ∧ S.n ≤ 2000 := by
  obtain ⟨bf, bc, lv, rfl, D⟩ := h
  exact ⟨D.n1, D.n2⟩
theorem DkF.sec {w : World} {f : List Nat} {b : Nat} {S : Dk} (h : DkF w f b S) (k : Nat) (hk : k < S.n) : (S.C k).length = 64 ∧ (S.F k).length = 64 := by
  obtain ⟨bf, bc, lv, rfl, D⟩ := h
  exact ⟨(D.cs k hk).1, (D.fs k hk).1⟩
theorem DkF.mem {w : World} {f : List Nat} {b : Nat} {S : Dk} (h : DkF w f b S) : b ∈ f := by
  obtain ⟨bf, bc, lv, rfl, D⟩ := h
  simp [foot]
/-- The listed variables stand as they were laid. -/
def Gl (w : World) : Prop := Tab w ∧ EHas w
theorem Gl.keep {w w2 : World} {f : List Nat} (h : Gl w) (k : Kp f w w2) (hf : ∀ x ∈ f, 7 ≤ x) : Gl w2 :=
  ⟨k.tab0 h.1 (fun hm => by have := hf _ hm; omega), by
    have h2 := h.2
    have hn : 0 ∉ f := fun hm => by have := hf _ hm; omega
    exact ⟨(k.cell (p := ⟨0, 0, none⟩) h2.2 hn).trans h2.1, k.lt h2.2⟩⟩
theorem Gl.kept {w w2 : World} (h : Gl w) (k : Kp [] w w2) : Gl w2 := h.keep k (fun x hx => by cases hx)
theorem Gl.mv {w w2 : World} {f g : List Nat} {b : Nat} {S : Dk} (h : Gl w) (D : DkF w f b S) (m : Mv f w g w2) : Gl w2 := h.keep m.kp (fun x hx => (D.pos x hx).1)

/-- Numbers that an int holds. -/
def Dk.Lim (S : Dk) (m : Nat) : Prop := S.writes ≤ m ∧ S.L.length ≤ m ∧ S.left ≤ 9223372036854775807
theorem Dk.Lim.mono {S : Dk} {m n : Nat} (h : S.Lim m) (hn : m ≤ n) : S.Lim n := ⟨Nat.le_trans h.1 hn, Nat.le_trans h.2.1 hn, h.2.2⟩
theorem Dk.Lim.wrote {S : Dk} {m : Nat} (h : S.Lim m) (p : Int) (s : ByteArray) : (S.wrote p s).Lim (m + 1) := by
  unfold Dk.wrote
  obtain ⟨h1, h2, h3⟩ := h
  split
  · refine ⟨by simp only [Dk.write]; omega, by simp only [Dk.write, List.length_append, List.length_cons, List.length_nil]; omega, ?_⟩
    simp only [Dk.write]
    split <;> omega
  · exact ⟨Nat.le_succ_of_le h1, Nat.le_succ_of_le h2, h3⟩
/-- The disk behind a call of Flush. -/
def Dk.flushed (S : Dk) : Dk := if S.dead then S else { S with F := lay S.F S.L, L := [] }
def Dk.ferr (S : Dk) : Int := if S.dead then 25 else 0
theorem Dk.Lim.flushed {S : Dk} {m : Nat} (h : S.Lim m) : S.flushed.Lim m := by
  unfold Dk.flushed
  split
  · exact h
  · exact ⟨h.1, Nat.zero_le _, h.2.2⟩
theorem Dk.wrote_n (S : Dk) (p : Int) (s : ByteArray) : (S.wrote p s).n = S.n := by unfold Dk.wrote; split <;> rfl
theorem Dk.flushed_n (S : Dk) : S.flushed.n = S.n := by unfold Dk.flushed; split <;> rfl

theorem f_write {w : World} {f : List Nat} {b : Nat} {S : Dk} (D : DkF w f b S) (p : Int) (s : ByteArray) (h0 : -9223372036854775808 ≤ p) (h1 : p ≤ 9223372036854775807) (ht : Gl w) (m : Nat) (hm : S.Lim m) (hmm : m < 4294967295) :
    Calls Tryz.prog 60 #[.pointer (some ⟨b, 0, none⟩), .int .i64 p, .string s] w fun e w2 => ∃ v f2, e = .returned v ∧ Answers (S.werr p s.size) v ∧ DkF w2 f2 b (S.wrote p s) ∧ Mv f w f2 w2 := by
  obtain ⟨bf, bc, lv, rfl, D⟩ := D
  refine (write_any w b bf bc lv S D p s h0 h1 ht.1 (by have := hm.1; omega) hm.2.2 (by have := hm.2.1; omega)).mono ?_
  rintro e w2 ⟨⟨v, rfl, hv⟩, lv2, D2, K2, hat⟩
  refine ⟨v, _, rfl, hv, ⟨bf, bc, lv2, rfl, D2⟩, K2, fun x hx => ?_⟩
  simp only [foot, List.mem_cons, Option.mem_toList] at hx ⊢
  rcases hx with rfl | rfl | rfl | hx
  · exact .inl (.inl rfl)
  · exact .inl (.inr (.inl rfl))
  · exact .inl (.inr (.inr (.inl rfl)))
  · rcases hat x hx with h | h
    · exact .inl (.inr (.inr (.inr h)))
    · exact .inr h
theorem f_read {w : World} {f : List Nat} {b : Nat} {S : Dk} (D : DkF w f b S) (p : Int) (h0 : -9223372036854775808 ≤ p) (h1 : p ≤ 9223372036854775807) (ht : Gl w) :
    Calls Tryz.prog 25 #[.pointer (some ⟨b, 0, none⟩), .int .i64 p] w fun e w2 => ∃ v, e = .returned (.tuple #[.string (S.rbytes p), v]) ∧ Answers (S.rerr p) v ∧ Kp [] w w2 := by
  obtain ⟨bf, bc, lv, rfl, D⟩ := D
  refine (read_any D p h0 h1 ht.1).mono ?_
  rintro e w2 ⟨⟨v, rfl, hv⟩, hk⟩
  exact ⟨v, rfl, hv, hk⟩
theorem foot_nilL {b bf bc : Nat} {lv : Value} : ∀ x ∈ foot b bf bc (.slice none 0 0), x ∈ foot b bf bc lv := fun x hx => by
  simp only [foot, Value.ownBlock, Option.toList_none, List.mem_cons, List.not_mem_nil, or_false] at hx ⊢
  rcases hx with rfl | rfl | rfl
  · exact .inl rfl
  · exact .inr (.inl rfl)
  · exact .inr (.inr (.inl rfl))
theorem f_flush {w : World} {f : List Nat} {b : Nat} {S : Dk} (D : DkF w f b S) (m : Nat) (hm : S.Lim m) (hmm : m < 4294967295) :
    Calls Tryz.prog 48 #[.pointer (some ⟨b, 0, none⟩)] w fun e w2 => ∃ v f2, e = .returned v ∧ Answers S.ferr v ∧ DkF w2 f2 b S.flushed ∧ Mv f w f2 w2 := by
  obtain ⟨bf, bc, lv, rfl, D⟩ := D
  cases hd : S.dead
  · refine (flush_ok D hd (by have := hm.2.1; omega)).mono ?_
    rintro e w2 ⟨rfl, D2, K2⟩
    exact ⟨_, _, rfl, .inl ⟨rfl, by simp [Dk.ferr, hd]⟩, ⟨bf, bc, _, rfl, by simpa [Dk.flushed, hd] using D2⟩, K2, fun x hx => .inl (foot_nilL x hx)⟩
  · have h4 := D.c4
    rw [hd] at h4
    refine (flush_dead h4).mono ?_
    rintro e w2 ⟨⟨v, rfl, hv⟩, hk⟩
    exact ⟨v, _, rfl, .inr ⟨by simpa [Dk.ferr, hd] using hv, by simp [Dk.ferr, hd]⟩, ⟨bf, bc, lv, rfl, by simpa [Dk.flushed, hd] using D.new hk⟩, Mv.of_kp hk _⟩
theorem f_crash {w : World} {f : List Nat} {b : Nat} {S : Dk} (D : DkF w f b S) (m : Nat) (hm : S.Lim m) (hmm : m < 4294967295) (ka : Option Addr) (kc : Nat) (ks : List Bool) (hk : KeepAt w f ka ks) (tn : Int) :
    Calls Tryz.prog 18 #[.pointer (some ⟨b, 0, none⟩), .slice ka ks.length kc, .int .i64 tn] w fun e w2 => ∃ f2, e = .returned (.tuple #[]) ∧ DkF w2 f2 b (S.crash ks tn) ∧ Mv f w f2 w2 := by
  obtain ⟨bf, bc, lv, rfl, D⟩ := D
  refine (crash_any D (by have := hm.2.1; omega) ka kc ks hk tn).mono ?_
  rintro e w2 ⟨rfl, D2, K2⟩
  exact ⟨_, rfl, ⟨bf, bc, _, rfl, D2⟩, K2, fun x hx => .inl (foot_nilL x hx)⟩
theorem f_cut {w : World} {f : List Nat} {b : Nat} {S : Dk} (D : DkF w f b S) (p : Int) :
    Calls Tryz.prog 21 #[.pointer (some ⟨b, 0, none⟩), .int .i64 p] w fun e w2 => e = .returned (.tuple #[]) ∧ DkF w2 f b (S.cutAt p) ∧ Mv f w f w2 := by
  obtain ⟨bf, bc, lv, rfl, D⟩ := D
  refine (cut_any D p).mono ?_
  rintro e w2 ⟨rfl, D2, k2⟩
  exact ⟨rfl, ⟨bf, bc, lv, rfl, D2⟩, k2, fun x hx => .inl hx⟩
theorem f_new (z : Int) (w : World) (hg : 7 ≤ w.heap.size) :
    Calls Tryz.prog 5 #[.int .i64 z] w fun e w2 => ∃ b f, e = .returned (.pointer (some ⟨b, 0, none⟩)) ∧ DkF w2 f b (Dk.new (clampN z)) ∧ Kp [] w w2 ∧ (∀ x ∈ f, w.heap.size ≤ x) := by
  refine (new_any z w hg).mono ?_
  rintro e w2 ⟨b, bf, bc, rfl, D, K, h1, h2, h3, _, _, _⟩
  refine ⟨b, _, rfl, ⟨bf, bc, _, rfl, D⟩, K, fun x hx => ?_⟩
  simp only [foot, Value.ownBlock, Option.toList_none, List.mem_cons, List.not_mem_nil, or_false] at hx
  rcases hx with rfl | rfl | rfl <;> omega
theorem f_len {w : World} {f : List Nat} {b : Nat} {S : Dk} (D : DkF w f b S) :
    Calls Tryz.prog 59 #[.pointer (some ⟨b, 0, none⟩)] w fun e w2 => e = .returned (.int .i64 S.n) ∧ w = w2 := len_any b S.n S.n _ w D.len
theorem f_writes {w : World} {f : List Nat} {b : Nat} {S : Dk} (D : DkF w f b S) :
    Calls Tryz.prog 24 #[.pointer (some ⟨b, 0, none⟩)] w fun e w2 => e = .returned (.int .i64 S.writes) ∧ w = w2 := by
  obtain ⟨bf, bc, lv, rfl, D⟩ := D
  exact writes_any b S.writes w D.c3
end Go.Proofs.YtggnljfcdohkaaaGreatDoor
