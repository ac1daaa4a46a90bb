/- Contracts of package journal: do, Add, Sync, Len. -/
import Derived.Test.YtggnljfcdohkaaaGreatDoorJnM
import Derived.Test.YtggnljfcdohkaaaGreatDoorJnAs
namespace Go.Proofs.YtggnljfcdohkaaaGreatDoor
open Go.RowKit

/-- What a call's work answers. -/
def WAns (v : Value) : Prop := v = .nilIface ∨ (∃ c : Int, v = errNum c) ∨ ∃ t, ∃ c : Int, v = dErr t c
/-- What do makes of it. -/
def DoThen (call : ByteArray) (j : Nat) (v : Value) (w2 : World) (e : Ending) (w3 : World) : Prop :=
  (v = .nilIface ∧ e = .returned .nilIface ∧ w3 = w2) ∨ ((∃ c : Int, v = errNum c) ∧ e = .returned (jErr call v) ∧ Kp [] w2 w3)
    ∨ ((∃ t, ∃ c : Int, v = dErr t c) ∧ e = .returned (jErr call v) ∧ Kp [j] w2 w3 ∧ ∀ dv J, JnAt w2 j dv J → JnAt w3 j (.pointer none) J)
theorem do_dead (j : Nat) (call : ByteArray) (fv : Value) (w : World) (h0 : w.cell? ⟨j, 0, none⟩ = some (.pointer none)) :
    Calls Tryz.prog 40 #[.pointer (some ⟨j, 0, none⟩), .string call, fv] w fun e w2 => e = .returned (jErr call (errNum 25)) ∧ w2 = w := by
  unfold jErr errNum
  go_enter Tryz.func40, Tryz.ntmps40
  go_wp2_with fail
  go_ret
  exact ⟨rfl, rfl⟩
set_option maxHeartbeats 6400000 in
set_option maxRecDepth 20000 in
theorem do_any (F : FuncId) (caps : Array Value) (hE : ∀ args w, (callFunc F args).run Tryz.prog w = .ok (.enter F args) w) (j b : Nat) (call : ByteArray) (w : World) (h0 : w.cell? ⟨j, 0, none⟩ = some (.pointer (some ⟨b, 0, none⟩)))
    (R : Value → World → Prop) (hF : Calls Tryz.prog F caps w fun e w2 => ∃ v, e = .returned v ∧ R v w2) (hR : ∀ v w2, R v w2 → WAns v ∧ EHas w2 ∧ ∃ dv J, JnAt w2 j dv J) :
    Calls Tryz.prog 40 #[.pointer (some ⟨j, 0, none⟩), .string call, .func (.func F) #[] caps] w fun e w3 => ∃ v w2, R v w2 ∧ DoThen call j v w2 e w3 := by
  have HF := Lib.hid hF
  have HR := Lib.hid hR
  clear hF hR
  go_enter Tryz.func40, Tryz.ntmps40
  go_wp2_with fail
  refine Calls.mono HF.out ?_
  rintro e w2 ⟨v, rfl, hr⟩
  have HRv := Lib.hid hr
  obtain ⟨hv, hE2, dv, J, hJ⟩ := HR.out v w2 hr
  have HE2 := Lib.hid hE2
  have HJ := Lib.hid hJ
  clear hr hE2 hJ HR HF h0
  rcases hv with rfl | ⟨c, rfl⟩ | ⟨t, c, rfl⟩
  · go_wp2_with fail
    go_ret
    exact ⟨_, _, HRv.out, .inl ⟨rfl, rfl, rfl⟩⟩
  all_goals
    obtain ⟨g, hg⟩ : ∃ g, g = w2.heap.size := ⟨_, rfl⟩
    have Ka : Hid (Kp [] w2 (w2.alloc (.cells #[.nilIface] 124))) := (Kp.refl [] w2).alloc _
    have hjg : Hid (j ≠ g) := fun h => by have := HJ.out.lt; omega
    have c0 : (w2.alloc (.cells #[.nilIface] 124)).cell? ⟨g, 0, none⟩ = some .nilIface := by rw [hg]; simp
    have f0 : (w2.alloc (.cells #[.nilIface] 124)).frozen? ⟨g, 0, none⟩ = false := by rw [hg]; simp
    have HG := Lib.hid (And.intro c0 (And.intro f0 hg))
    clear c0 f0 hg
  · have HA := Lib.hid (JnAs.as_miss c g .nilIface _ (HE2.out.kept Ka.out).1 HG.out.1 HG.out.2.1)
    unfold errNum
    go_wp2_with fail
    rw [← HG.out.2.2]
    refine Calls.mono HA.out ?_
    rintro e w3 ⟨rfl, K⟩
    have HK := Lib.hid (Ka.out.trans K)
    clear K
    go_wp2_with fail
    go_ret
    exact ⟨_, _, HRv.out, .inr (.inl ⟨⟨c, rfl⟩, rfl, HK.out⟩)⟩
  · have HA := Lib.hid (JnAs.as_hit (dkRef t c) g .nilIface _ (HE2.out.kept Ka.out).1 HG.out.1 HG.out.2.1 rfl)
    unfold dkRef at HA
    unfold dErr dkRef
    go_wp2_with fail
    rw [← HG.out.2.2]
    refine Calls.mono HA.out ?_
    rintro e w3 ⟨rfl, h1, h2, K⟩
    have J3 : Hid (JnAt w3 j dv J) := (HJ.out.kept Ka.out).keep K (by simpa using hjg.out)
    have HK : Hid (Kp [] w2 w3) := Ka.out.trans2 K (fun x hx => .inr (by simp at hx; rw [hx, HG.out.2.2]; exact Nat.le_refl _))
    have HAll : Hid (∀ dv J, JnAt w2 j dv J → JnAt w3 j dv J) := fun dv J h => (h.kept Ka.out).keep K (by simpa using hjg.out)
    clear K h1 h2 HA
    have c0 := J3.out.c0
    have f0 := J3.out.f 0
    go_wp2_with fail
    go_ret
    exact ⟨_, _, HRv.out, .inr (.inr ⟨⟨t, c, rfl⟩, rfl, (HK.out.mono (fun _ h => by cases h)).setCell (.inl (by simp)) _, fun dv J h => (HAll.out dv J h).set0 _⟩)⟩

/-- The journal is dead. -/
structure JDead (w : World) (f : List Nat) (b j : Nat) (S : Dk) (J : Jn) : Prop where
  d : DkF w f b S
  j_ : JnAt w j (.pointer none) J
  jf : j ∉ f
  jg : 7 ≤ j
theorem JDead.kept {w w2 : World} {f : List Nat} {b j : Nat} {S : Dk} {J : Jn} (h : JDead w f b j S J) (k : Kp [] w w2) : JDead w2 f b j S J := ⟨h.d.kept k, h.j_.kept k, h.jf, h.jg⟩
def sAdd : ByteArray := ⟨#[97, 100, 100]⟩
def sSync : ByteArray := ⟨#[115, 121, 110, 99]⟩
/-- What Add comes to. -/
def AddThen (S : Dk) (J : Jn) (r : ByteArray) (f : List Nat) (b j : Nat) (w : World) (e : Ending) (w2 : World) : Prop :=
  ∃ f2, Mv (j :: f) w (j :: f2) w2 ∧ ((2010 < r.size ∧ e = .returned (jErr sAdd (errNum 13)) ∧ JF w2 f2 b j S J)
    ∨ (r.size ≤ 2010 ∧ hl S.n * 64 - J.used < (addW J r).size ∧ e = .returned (jErr sAdd (errNum 14)) ∧ JF w2 f2 b j S J)
    ∨ (r.size ≤ 2010 ∧ (addW J r).size ≤ hl S.n * 64 - J.used ∧ (addWr S J r).1 ≠ 0 ∧ (∃ t, e = .returned (jErr sAdd (dErr t (addWr S J r).1))) ∧ JDead w2 f2 b j (addWr S J r).2 J)
    ∨ (r.size ≤ 2010 ∧ (addW J r).size ≤ hl S.n * 64 - J.used ∧ (addWr S J r).1 = 0 ∧ e = .returned .nilIface ∧ JF w2 f2 b j (addWr S J r).2 (addJ J r)))
/-- The box of a variable that a closure holds. -/
theorem Mv.of_cons {f g : List Nat} {w0 w w2 : World} (k : Kp [] w0 w) (m : Mv f w g w2) : Mv f w0 g w2 := (Mv.of_kp k f).trans m
theorem JF.gl {w : World} {f : List Nat} {b j : Nat} {S : Dk} {J : Jn} (h : JF w f b j S J) : ∀ x ∈ j :: f, 7 ≤ x := fun x hx => by
  rcases List.mem_cons.1 hx with rfl | hx
  · exact h.jg
  · exact (h.d.pos x hx).1
set_option maxHeartbeats 6400000 in
set_option maxRecDepth 20000 in
theorem Add1_any {w : World} {f : List Nat} {b j : Nat} {S : Dk} {J : Jn} (D : JF w f b j S J) (h4 : 4 ≤ S.n) (hJ : J.Ok S.n) (r : ByteArray) (hG : Gl w) (m : Nat) (hm : S.Lim m) (hmm : m + 40 < 4294967295) (X Y : Nat)
    (c1 : w.cell? ⟨X, 0, none⟩ = some (.pointer (some ⟨j, 0, none⟩))) (c2 : w.cell? ⟨Y, 0, none⟩ = some (.string r)) :
    Calls Tryz.prog 41 #[.pointer (some ⟨X, 0, none⟩), .pointer (some ⟨Y, 0, none⟩)] w fun e w2 => ∃ v, e = .returned v ∧ AddPost S J r f b j w (.returned v) w2 := by
  have H := Lib.hid (add_any D h4 hJ r hG m hm hmm)
  clear D hG hJ hm
  go_enter Tryz.func41, Tryz.ntmps41
  go_wp2_with fail
  refine Calls.mono H.out ?_
  intro e w2 hp
  obtain ⟨v, rfl⟩ : ∃ v, e = .returned v := by
    obtain ⟨f2, _, ⟨_, h, _⟩ | ⟨_, _, h, _⟩ | ⟨_, _, _, ⟨t, h⟩, _⟩ | ⟨_, _, _, h, _⟩⟩ := hp
    all_goals exact ⟨_, h⟩
  have HP := Lib.hid hp
  clear hp
  go_wp2_with fail
  go_ret
  exact ⟨_, rfl, HP.out⟩
theorem AddPost.wans {S : Dk} {J : Jn} {r : ByteArray} {f : List Nat} {b j : Nat} {w w2 : World} {v : Value} (h : AddPost S J r f b j w (.returned v) w2) : WAns v ∧ ∃ J, JnAt w2 j (.pointer (some ⟨b, 0, none⟩)) J := by
  obtain ⟨f2, _, ⟨_, h, q⟩ | ⟨_, _, h, q⟩ | ⟨_, _, _, ⟨t, h⟩, q⟩ | ⟨_, _, _, h, q⟩⟩ := h
  all_goals
    simp only [Ending.returned.injEq] at h
    subst h
  · exact ⟨.inr (.inl ⟨_, rfl⟩), _, q.j_⟩
  · exact ⟨.inr (.inl ⟨_, rfl⟩), _, q.j_⟩
  · exact ⟨.inr (.inr ⟨_, _, rfl⟩), _, q.j_⟩
  · exact ⟨.inl rfl, _, q.j_⟩
theorem add_then {S : Dk} {J : Jn} {r : ByteArray} {f : List Nat} {b j : Nat} {w y w2 w3 : World} {v : Value} {e : Ending} (K : Kp [] w y) (hp : AddPost S J r f b j y (.returned v) w2) (hd : DoThen sAdd j v w2 e w3) : AddThen S J r f b j w e w3 ∧ ∃ u, e = .returned u := by
  obtain ⟨f2, hM, hp⟩ := hp
  have hM2 : Mv (j :: f) w (j :: f2) w2 := (Mv.of_kp K _).trans hM
  simp only [Ending.returned.injEq] at hp
  rcases hd with ⟨rfl, rfl, rfl⟩ | ⟨⟨c, hc⟩, rfl, K2⟩ | ⟨⟨t, c, hc⟩, rfl, K2, hset⟩
  · obtain ⟨_, h, _⟩ | ⟨_, _, h, _⟩ | ⟨_, _, _, ⟨t, h⟩, _⟩ | ⟨h1, h2, h3, _, q⟩ := hp
    · cases h
    · cases h
    · cases h
    · exact ⟨⟨f2, hM2, .inr (.inr (.inr ⟨h1, h2, h3, rfl, q⟩))⟩, _, rfl⟩
  · obtain ⟨h1, rfl, q⟩ | ⟨h1, h2, rfl, q⟩ | ⟨_, _, _, ⟨t, h⟩, _⟩ | ⟨_, _, _, h, _⟩ := hp
    · exact ⟨⟨f2, hM2.kp0 K2, .inl ⟨h1, rfl, q.kept K2⟩⟩, _, rfl⟩
    · exact ⟨⟨f2, hM2.kp0 K2, .inr (.inl ⟨h1, h2, rfl, q.kept K2⟩)⟩, _, rfl⟩
    · rw [hc] at h; simp [errNum, dErr] at h
    · rw [hc] at h; cases h
  · obtain ⟨h1, h, q⟩ | ⟨h1, h2, h, q⟩ | ⟨h1, h2, h3, ⟨t', h⟩, q⟩ | ⟨_, _, _, h, _⟩ := hp
    · rw [hc] at h; simp [errNum, dErr] at h
    · rw [hc] at h; simp [errNum, dErr] at h
    · subst h
      exact ⟨⟨f2, hM2.trans ⟨K2.mono (fun x hx => by simp at hx; simp [hx]), fun x hx => .inl hx⟩, .inr (.inr (.inl ⟨h1, h2, h3, ⟨t', rfl⟩, ⟨q.d.keep K2 (fun x hx hm => by simp at hm; rw [hm] at hx; exact q.jf hx), hset _ _ q.j_, q.jf, q.jg⟩⟩))⟩, _, rfl⟩
    · rw [hc] at h; cases h
set_option maxHeartbeats 6400000 in
set_option maxRecDepth 20000 in
theorem Add_any {w : World} {f : List Nat} {b j : Nat} {S : Dk} {J : Jn} (D : JF w f b j S J) (h4 : 4 ≤ S.n) (hJ : J.Ok S.n) (r : ByteArray) (hG : Gl w) (m : Nat) (hm : S.Lim m) (hmm : m + 40 < 4294967295) :
    Calls Tryz.prog 12 #[.pointer (some ⟨j, 0, none⟩), .string r] w (AddThen S J r f b j w) := by
  obtain ⟨X, hX⟩ : ∃ X, X = w.heap.size := ⟨_, rfl⟩
  obtain ⟨Y, hY⟩ : ∃ Y, Y = w.heap.size + 1 := ⟨_, rfl⟩
  obtain ⟨y, hy⟩ : ∃ y, y = (w.alloc (.cells #[.pointer (some ⟨j, 0, none⟩)] 33)).alloc (.cells #[.string r] 9) := ⟨_, rfl⟩
  have K : Kp [] w y := by rw [hy]; exact ((Kp.refl [] w).alloc _).alloc _
  have c1 : y.cell? ⟨X, 0, none⟩ = some (.pointer (some ⟨j, 0, none⟩)) := by rw [hy, hX]; simp
  have c2 : y.cell? ⟨Y, 0, none⟩ = some (.string r) := by rw [hy, hY]; simp
  have Dy := D.kept K
  have hdo := do_any 41 #[.pointer (some ⟨X, 0, none⟩), .pointer (some ⟨Y, 0, none⟩)] (by intro args w; first | simp [go_sem] | kernel_rfl) j b sAdd y Dy.j_.c0 (fun v w2 => AddPost S J r f b j y (.returned v) w2) (Add1_any Dy h4 hJ r (hG.kept K) m hm hmm X Y c1 c2)
    (fun v w2 h => by
      obtain ⟨h1, J2, h2⟩ := h.wans
      obtain ⟨f2, hM, _⟩ := h
      exact ⟨h1, ((hG.kept K).keep hM.kp Dy.gl).2, _, _, h2⟩)
  have HK := Lib.hid K
  have HDO := Lib.hid hdo
  have HY := Lib.hid (And.intro hX (And.intro hY hy))
  have HC := Lib.hid c1
  clear hdo K c1 c2 Dy D hJ hG hm hX hY hy
  unfold sAdd at HDO
  go_enter Tryz.func12, Tryz.ntmps12
  go_wp2_with fail
  rw [← HY.out.2.2, ← HY.out.2.1, ← HY.out.1]
  refine Calls.mono HDO.out ?_
  rintro e w3 ⟨v, w2, hp, hd⟩
  obtain ⟨h1, u, rfl⟩ := add_then HK.out hp hd
  have H1 := Lib.hid h1
  clear hp hd h1
  go_wp2_with fail
  go_ret
  exact H1.out

/-- What Sync comes to. -/
def SyncPost (S : Dk) (J : Jn) (f : List Nat) (b j : Nat) (w : World) (v : Value) (w2 : World) : Prop := ∃ f2, Mv (j :: f) w (j :: f2) w2 ∧ JF w2 f2 b j S.flushed J ∧ DAns S.ferr v
def SyncThen (S : Dk) (J : Jn) (f : List Nat) (b j : Nat) (w : World) (e : Ending) (w2 : World) : Prop :=
  ∃ f2, Mv (j :: f) w (j :: f2) w2 ∧ ((S.ferr = 0 ∧ e = .returned .nilIface ∧ JF w2 f2 b j S.flushed J) ∨ (S.ferr ≠ 0 ∧ (∃ t, e = .returned (jErr sSync (dErr t S.ferr))) ∧ JDead w2 f2 b j S.flushed J))
set_option maxHeartbeats 6400000 in
set_option maxRecDepth 20000 in
theorem Sync1_any {w : World} {f : List Nat} {b j : Nat} {S : Dk} {J : Jn} (D : JF w f b j S J) (m : Nat) (hm : S.Lim m) (hmm : m + 40 < 4294967295) (X : Nat)
    (c1 : w.cell? ⟨X, 0, none⟩ = some (.pointer (some ⟨j, 0, none⟩))) :
    Calls Tryz.prog 46 #[.pointer (some ⟨X, 0, none⟩)] w fun e w2 => ∃ v, e = .returned v ∧ SyncPost S J f b j w v w2 := by
  have HF := Lib.hid (f_flush D.d m hm (by omega))
  have HD := Lib.hid D
  have c0 := D.j_.c0
  clear D hm
  go_enter Tryz.func46, Tryz.ntmps46
  go_wp2_with fail
  refine Calls.mono HF.out ?_
  rintro e w2 ⟨v, f2, rfl, hv, D2, M2⟩
  have HO := Lib.hid (ofDisk_any hv)
  have HD2 := Lib.hid D2
  have HM2 := Lib.hid M2
  clear hv D2 M2
  go_wp2_with fail
  refine Calls.mono (HO.out _) ?_
  rintro e w3 ⟨⟨v2, rfl, hv2⟩, rfl⟩
  have HV := Lib.hid hv2
  clear hv2
  go_wp2_with fail
  go_ret
  exact ⟨_, rfl, f2, HM2.out.more j, ⟨HD2.out, HD.out.j_.keep HM2.out.kp HD.out.jf, HM2.out.apart HD.out.jf HD.out.j_.lt, HD.out.jg⟩, HV.out⟩
theorem sync_then {S : Dk} {J : Jn} {f : List Nat} {b j : Nat} {w y w2 w3 : World} {v : Value} {e : Ending} (K : Kp [] w y) (hp : SyncPost S J f b j y v w2) (hd : DoThen sSync j v w2 e w3) : SyncThen S J f b j w e w3 ∧ ∃ u, e = .returned u := by
  obtain ⟨f2, hM, hJ, hv⟩ := hp
  have hM2 : Mv (j :: f) w (j :: f2) w2 := (Mv.of_kp K _).trans hM
  rcases hd with ⟨rfl, rfl, rfl⟩ | ⟨⟨c, rfl⟩, rfl, K2⟩ | ⟨⟨t, c, rfl⟩, rfl, K2, hset⟩
  · refine ⟨⟨f2, hM2, .inl ⟨?_, rfl, hJ⟩⟩, _, rfl⟩
    rcases hv with ⟨_, h⟩ | ⟨⟨t, h⟩, _⟩
    · exact h
    · cases h
  · rcases hv with ⟨h, _⟩ | ⟨⟨t, h⟩, _⟩
    · cases h
    · simp [errNum, dErr] at h
  · rcases hv with ⟨h, _⟩ | ⟨⟨t', h⟩, h0⟩
    · cases h
    · simp only [dErr, dkRef, Value.iface.injEq, Value.agg.injEq, true_and] at h
      simp at h
      obtain ⟨rfl, rfl⟩ := h
      exact ⟨⟨f2, hM2.trans ⟨K2.mono (fun x hx => by simp at hx; simp [hx]), fun x hx => .inl hx⟩, .inr ⟨h0, ⟨_, rfl⟩, ⟨hJ.d.keep K2 (fun x hx hm => by simp at hm; rw [hm] at hx; exact hJ.jf hx), hset _ _ hJ.j_, hJ.jf, hJ.jg⟩⟩⟩, _, rfl⟩
set_option maxHeartbeats 6400000 in
set_option maxRecDepth 20000 in
theorem Sync_any {w : World} {f : List Nat} {b j : Nat} {S : Dk} {J : Jn} (D : JF w f b j S J) (hG : Gl w) (m : Nat) (hm : S.Lim m) (hmm : m + 40 < 4294967295) :
    Calls Tryz.prog 14 #[.pointer (some ⟨j, 0, none⟩)] w (SyncThen S J f b j w) := by
  obtain ⟨X, hX⟩ : ∃ X, X = w.heap.size := ⟨_, rfl⟩
  obtain ⟨y, hy⟩ : ∃ y, y = (w.alloc (.cells #[.pointer (some ⟨j, 0, none⟩)] 33)) := ⟨_, rfl⟩
  have K : Kp [] w y := by rw [hy]; exact (Kp.refl [] w).alloc _
  have c1 : y.cell? ⟨X, 0, none⟩ = some (.pointer (some ⟨j, 0, none⟩)) := by rw [hy, hX]; simp
  have Dy := D.kept K
  have hdo := do_any 46 #[.pointer (some ⟨X, 0, none⟩)] (by intro args w; first | simp [go_sem] | kernel_rfl) j b sSync y Dy.j_.c0 (fun v w2 => SyncPost S J f b j y v w2) (Sync1_any Dy m hm hmm X c1)
    (fun v w2 h => by
      obtain ⟨f2, hM, h2, h3⟩ := h
      refine ⟨?_, ((hG.kept K).keep hM.kp Dy.gl).2, _, _, h2.j_⟩
      rcases h3 with ⟨rfl, _⟩ | ⟨⟨t, rfl⟩, _⟩
      · exact .inl rfl
      · exact .inr (.inr ⟨_, _, rfl⟩))
  have HK := Lib.hid K
  have HDO := Lib.hid hdo
  have HY := Lib.hid (And.intro hX hy)
  have HC := Lib.hid c1
  clear hdo K c1 Dy D hG hm hX hy
  unfold sSync at HDO
  go_enter Tryz.func14, Tryz.ntmps14
  go_wp2_with fail
  rw [← HY.out.2, ← HY.out.1]
  refine Calls.mono HDO.out ?_
  rintro e w3 ⟨v, w2, hp, hd⟩
  obtain ⟨h1, u, rfl⟩ := sync_then HK.out hp hd
  have H1 := Lib.hid h1
  clear hp hd h1
  go_wp2_with fail
  go_ret
  exact H1.out
theorem JLen_any {w : World} {j : Nat} {dv : Value} {J : Jn} (D : JnAt w j dv J) :
    Calls Tryz.prog 23 #[.pointer (some ⟨j, 0, none⟩)] w fun e w2 => e = .returned (.int .i64 (J.count : Int)) ∧ w2 = w := by
  have c4 := D.c4
  clear D
  go_enter Tryz.func23, Tryz.ntmps23
  go_wp2_with fail
  go_ret
  exact ⟨rfl, rfl⟩
end Go.Proofs.YtggnljfcdohkaaaGreatDoor
