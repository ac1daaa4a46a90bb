/- Contracts of package pack, as callers use them: Take, TakeText. -/
import Derived.Test.YtggnljfcdohkaaaGreatDoorPkAs
namespace Go.Proofs.YtggnljfcdohkaaaGreatDoor
open Go.RowKit

/-- The listed variable of package errors. -/
def EHas (w : World) : Prop := w.cell? ⟨0, 0, none⟩ = some (.iface 139 (.agg #[.pointer (some ⟨7, 30, none⟩)])) ∧ 0 < w.heap.size
theorem EHas.kept {w w2 : World} (h : EHas w) (k : Kp [] w w2) : EHas w2 := ⟨(k.cell0 h.2).trans h.1, k.lt h.2⟩
/-- An error of the package. -/
def pkErr (of : ByteArray) (u c : Int) : Value := .iface 186 (.agg #[.string of, .int .i64 u, .int .i64 c])
def sText : ByteArray := ⟨#[116, 101, 120, 116]⟩
def sNumber : ByteArray := ⟨#[110, 117, 109, 98, 101, 114]⟩

theorem take_yes (s : ByteArray) (hs : s.size ≤ 9223372036854775) (k u : Nat) (h : takeS s = (0, k, u)) (w : World) :
    Calls Tryz.prog 103 #[.string s] w fun e w2 => e = .returned (.tuple #[.int .i64 (k : Int), .string (s.extract u s.size), .nilIface]) ∧ Kp [] w w2 := by
  refine (take_any s hs w).mono ?_
  rintro e w2 ⟨rfl, hk⟩
  rw [h]
  exact ⟨rfl, hk⟩
theorem take_no (s : ByteArray) (hs : s.size ≤ 9223372036854775) (c k u : Nat) (h : takeS s = (c, k, u)) (hc : c = 10 ∨ c = 11) (w : World) :
    Calls Tryz.prog 103 #[.string s] w fun e w2 => e = .returned (.tuple #[.int .i64 0, .string s, pkErr sNumber (u : Int) (c : Int)]) ∧ Kp [] w w2 := by
  refine (take_any s hs w).mono ?_
  rintro e w2 ⟨rfl, hk⟩
  rw [h]
  rcases hc with rfl | rfl <;> exact ⟨rfl, hk⟩

/-- A variable of the error's type that is new. -/
def zeroF : Obj := .cells #[.string ⟨#[]⟩, .int .i64 0, .int .i64 0] 186
theorem as_new (sx : ByteArray) (n c : Int) (w : World) (hE : EHas w) :
    Calls Tryz.prog 29 #[.iface 186 (.agg #[.string sx, .int .i64 n, .int .i64 c]), .iface 201 (.pointer (some ⟨w.heap.size, 0, none⟩))] (w.alloc zeroF) (AsHit w.heap.size sx n c (w.alloc zeroF)) := by
  have c0 : ∀ o v, (#[Value.string ⟨#[]⟩, .int .i64 0, .int .i64 0] : Array Value)[o]? = some v → (w.alloc zeroF).cell? ⟨w.heap.size, o, none⟩ = some v := fun o v h => by
    unfold zeroF
    rw [World.cell?_alloc_at _ _ _ _ (by simp)]; exact h
  have fz : ∀ o, (w.alloc zeroF).frozen? ⟨w.heap.size, o, none⟩ = false := fun o => by
    unfold zeroF
    exact World.frozen?_alloc_new _ _ _ _
  exact as_hit sx n c w.heap.size _ _ _ _ (hE.kept ((Kp.refl [] w).alloc _)).1 (c0 0 _ rfl) (c0 1 _ rfl) (c0 2 _ rfl) (fz 0) (fz 1) (fz 2)
theorem inText_any (sx : ByteArray) (n c : Int) (w : World) (hE : EHas w) :
    Calls Tryz.prog 129 #[pkErr sx n c] w fun e w2 => e = .returned (pkErr sText n c) ∧ Kp [] w w2 := by
  have HE := Lib.hid hE
  clear hE
  unfold pkErr
  go_enter Tryz.func129, Tryz.ntmps129
  go_wp2_with fail
  refine Calls.mono (as_new sx n c w HE.out) ?_
  rintro e w2 ⟨rfl, hr, ht, hk⟩
  have r0 := hr 0 _ rfl
  have r1 := hr 1 _ rfl
  have r2 := hr 2 _ rfl
  have f0 := (ht 0 (by omega)).2
  simp only [Nat.zero_add] at r0 r1 r2 f0
  have HK := Lib.hid hk
  clear hr ht hk
  go_wp2_with fail
  go_ret
  exact ⟨rfl, (((Kp.refl [] w).alloc zeroF).trans2 HK.out (fun x hx => .inr (by simp at hx; omega))).setCell (.inr (Nat.le_refl _)) _⟩

theorem ttext_ret {w w2 : World} {a : Act} {v0 v1 v2 : Value} (hk : Kp [] w w2) (h2 : a.tmps.getD 4 undef = v0) (h3 : a.tmps.getD 5 undef = v1) (h4 : a.tmps.getD 6 undef = v2) (hd : a.defers = []) :
    bodyPost Tryz.prog Tryz.f121 (fun e w2 => e = .returned (.tuple #[v0, v1, v2]) ∧ Kp [] w w2) .ret a w2 := by
  exact bodyPost_ret (v := .tuple #[v0, v1, v2]) (by simp [results, Tryz.results121, go_sem]; simp at h2 h3 h4; exact ⟨h2, h3, h4⟩) hd ⟨rfl, hk⟩
/-- What is left of TakeText once the number is taken. -/
theorem ttext_yes (s : ByteArray) (hs : s.size ≤ 9223372036854775) (most : Int) (k u : Nat) (h : takeS s = (0, k, u)) (h1 : (k : Int) ≤ most) (h2 : k ≤ (s.extract u s.size).size) (w : World) :
    Calls Tryz.prog 121 #[.string s, .int .i64 most] w fun e w2 => e = .returned (.tuple #[.string ((s.extract u s.size).extract 0 k), .string ((s.extract u s.size).extract k (s.extract u s.size).size), .nilIface]) ∧ Kp [] w w2 := by
  have H := Lib.hid h
  clear h
  have hrs : (s.extract u s.size).size ≤ 9223372036854775 := by simp [ByteArray.size_extract]; omega
  obtain ⟨r, hr⟩ : ∃ r, r = s.extract u s.size := ⟨_, rfl⟩
  rw [← hr] at h2 hrs ⊢
  have HR := Lib.hid hr
  clear hr
  have d1 : decide (most < (k : Int)) = false := by simpa using h1
  have d2 : decide (r.size < k) = false := by simpa using h2
  go_enter Tryz.func121, Tryz.ntmps121
  go_wp2_with (go_at_call 103; refine Calls.mono (take_yes s hs k u H.out _) ?_; rw [← HR.out]; rintro e w' ⟨rfl, hk⟩)
  have HK := Lib.hid hk
  clear hk
  go_quiet (fail)
  go_wp2_with fail
  exact ttext_ret (HK.out.drewN _) rfl rfl rfl rfl
theorem ttext_no (s : ByteArray) (hs : s.size ≤ 9223372036854775) (most : Int) (c k u : Nat) (h : takeS s = (c, k, u)) (hc : c = 10 ∨ c = 11) (w : World) (hE : EHas w) :
    Calls Tryz.prog 121 #[.string s, .int .i64 most] w fun e w2 => e = .returned (.tuple #[.string ⟨#[]⟩, .string s, pkErr sText (u : Int) (c : Int)]) ∧ Kp [] w w2 := by
  have H := Lib.hid h
  have HE := Lib.hid hE
  have HC := Lib.hid hc
  clear h hE hc
  go_enter Tryz.func121, Tryz.ntmps121
  go_wp2_with fail
  refine Calls.mono (take_no s hs c k u H.out HC.out _) ?_
  unfold pkErr
  rintro e w2 ⟨rfl, hk⟩
  have HK := Lib.hid hk
  clear hk
  go_wp2_with fail
  refine Calls.mono (inText_any sNumber (u : Int) (c : Int) _ (HE.out.kept HK.out)) ?_
  unfold pkErr
  rintro e w3 ⟨rfl, hk⟩
  have HK2 := Lib.hid (HK.out.trans hk)
  clear hk HK
  go_wp2_with fail
  exact ttext_ret HK2.out rfl rfl rfl rfl
theorem ttext_large (s : ByteArray) (hs : s.size ≤ 9223372036854775) (most : Int) (k u : Nat) (h : takeS s = (0, k, u)) (h1 : most < (k : Int)) (w : World) :
    Calls Tryz.prog 121 #[.string s, .int .i64 most] w fun e w2 => e = .returned (.tuple #[.string ⟨#[]⟩, .string s, pkErr sText 0 13]) ∧ Kp [] w w2 := by
  have H := Lib.hid h
  clear h
  have d1 : decide (most < (k : Int)) = true := by simpa using h1
  go_enter Tryz.func121, Tryz.ntmps121
  go_wp2_with fail
  refine Calls.mono (take_yes s hs k u H.out _) ?_
  rintro e w2 ⟨rfl, hk⟩
  have HK := Lib.hid hk
  clear hk
  go_wp2_with fail
  exact ttext_ret HK.out rfl rfl rfl rfl
theorem ttext_short (s : ByteArray) (hs : s.size ≤ 9223372036854775) (most : Int) (k u : Nat) (h : takeS s = (0, k, u)) (h1 : (k : Int) ≤ most) (h2 : (s.extract u s.size).size < k) (w : World) :
    Calls Tryz.prog 121 #[.string s, .int .i64 most] w fun e w2 => e = .returned (.tuple #[.string ⟨#[]⟩, .string s, pkErr sText (s.size : Int) 11]) ∧ Kp [] w w2 := by
  have H := Lib.hid h
  clear h
  obtain ⟨r, hr⟩ : ∃ r, r = s.extract u s.size := ⟨_, rfl⟩
  rw [← hr] at h2
  have HR := Lib.hid hr
  clear hr
  have d1 : decide (most < (k : Int)) = false := by simpa using h1
  have d2 : decide (r.size < k) = true := by simpa using h2
  go_enter Tryz.func121, Tryz.ntmps121
  go_wp2_with fail
  refine Calls.mono (take_yes s hs k u H.out _) ?_
  rw [← HR.out]
  rintro e w2 ⟨rfl, hk⟩
  have HK := Lib.hid hk
  clear hk
  go_wp2_with fail
  exact ttext_ret HK.out rfl rfl rfl rfl
end Go.Proofs.YtggnljfcdohkaaaGreatDoor
