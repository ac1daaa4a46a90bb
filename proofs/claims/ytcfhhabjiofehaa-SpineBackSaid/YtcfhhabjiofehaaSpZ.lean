/- Contracts of the reference's Pis, Apply, Pi, Lam, Vars, SameAll. -/
import Derived.Test.YtcfhhabjiofehaaSpY
import Derived.Test.YtcfhhabjiofehaaSpS
namespace Go.Proofs.Ytcfhhabjiofehaa
open Go.RowKit

set_option maxHeartbeats 6400000 in
theorem rpis_any {t : Tm} (ho : Okn t) (hsz : t.sz ≤ 100000) (most : Int) (m : Nat) (hm : m = most.toNat) {w : World} {p : Option Addr} (hp : TmAt w t p) : Calls Try.prog 12 #[.pointer p, .int .i64 most] w (PisPost w m t) := by
  obtain ⟨i0, hi0, hz0, hz1, hz2⟩ := info_parts ptrInfo
  have Hi := Lib.hid hi0
  have M0 := Lib.hid (NestSt.start 4 m hp ho)
  unfold PisPost PartsPost pis
  have HM := Lib.hid hm
  clear hi0 hp hm ho
  go_enter Try.func12, Try.ntmps12
  go_wp2_with fail
  go_loopw [6, 0] (fun v q wr => ∃ (i : Nat) (a : Option Addr) (c : Nat) (x : Option Addr), v = .slice a i c ∧ q = .pointer x ∧ Hid (NestSt w wr 4 m t i a c x)) (fun v _ _ => 200000 - lenV v)
  case atStart => exact ⟨0, none, 0, p, rfl, rfl, M0⟩
  case round =>
    clear M0
    obtain ⟨i, a, c, x, rfl, rfl, HR⟩ := hrel
    obtain ⟨u, ps, L, h1, h2, h3, h4, h5, h6, h7⟩ := HR.out.ex
    cases u with
    | nil => exact absurd rfl h4.2
    | node k2 n s ta tb tc =>
      obtain ⟨g, pa, pb, pc, rfl, _, ND, hA, hB, _⟩ := h3
      obtain ⟨x0, _, _, x3, x4, _⟩ := ND.cells
      by_cases hk : k2 = 4
      · subst hk
        by_cases hlt : (i : Int) < most
        · have l1 : decide ((i : Int) < most) = true := by simpa using hlt
          have him : i < m := by have := HM.out; omega
          have ho2 := (row_ok 4 (.inl rfl) 1 _ h4)
          rw [row_step] at ho2
          have HN : Hid (Kp [] w wr ∧ Row wr w.heap.size (.slice a i c) ps L ∧ ps.length = i ∧ TmAt wr ta pa ∧ TmAt wr tb pb ∧ Okn tb ∧ i + 1 + tb.sz ≤ t.sz ∧ row 4 m t = ((L ++ [ta]) ++ (row 4 (m - (i + 1)) tb).1, (row 4 (m - (i + 1)) tb).2)) := by
            refine ⟨HR.out.kp, h1, h2, hA, hB, ho2.2, ?_, ?_⟩
            · simp only [Tm.sz] at h5
              omega
            · have e : m - i = (m - (i + 1)) + 1 := by omega
              rw [h7, e, row_step]
              simp [part, rest]
          have hown : wr.ownsRow w.heap.size 24 1 (.slice a i c) i (ps.map Value.pointer) := by
            have := h1.own
            rw [h2] at this
            exact this
          have hi9 : i ≤ 100000 := by omega
          have hws : w.heap.size ≤ wr.heap.size := HR.out.kp.size
          have HND := Lib.hid ND
          clear h1 h2 h4 h5 h6 h7 HR hA hB ND ho2 hlt
          go_wp2_with (at_builtin; refine wpList_append_own _ rfl _ _ 26 rfl w.heap.size 24 i0 (.pointer none) 1 8 Try.underlying26 Hi.out hz0 hz1 hz2 rfl (by decide) _ i (ps.map Value.pointer) rfl (hown.alloc _) ⟨wr.heap.size, 0, none⟩ 1 1 [.pointer pa] rfl rfl ?c1 ?c2 ?c3 ?c4 ?c5 ?_)
          case c1 =>
            intro j u hj
            match j, hj with
            | 0, hj => simp at hj; subst hj; simp [Addr.add]
          case c2 => intro u hu; simp at hu; subst hu; rfl
          case c3 => unfold maxLen; omega
          case c4 => omega
          case c5 => simp; omega
          intro v' w3 hown' hgrow _
          obtain ⟨n1, n2, n3, n4, n5, n6, n7, n8⟩ := HN.out
          have n5' : TmAt w3 tb pb := n5.row (((Kp.refl _ wr).alloc _).grown hgrow (fun g hg => .inl (by rw [hg]; simp))) (fun g hg => (n2.own_ge g hg).2)
          have z4 : w3.cell? ⟨g, 4, none⟩ = some (.pointer pb) := by
            have K : Kp (Value.slice a i c).ownBlock.toList wr w3 := ((Kp.refl _ wr).alloc _).grown hgrow (fun g hg => .inl (by rw [hg]; simp))
            exact (K.cell (p := ⟨g, 4, none⟩) HND.out.lt (fun hm => (n2.own_ge g hm).2 _ _ _ _ _ _ HND.out)).trans x4
          obtain ⟨a2, c2, rfl, r1, r2, r3⟩ := n2.grow n3 n4 hown' hgrow
          have HA : Hid (NestSt w w3 4 m t (i + 1) a2 c2 pb) := ⟨r3 w n1 (Nat.le_refl _), tb, _, _, r2, r1, n5', n6, n7, him, n8⟩
          clear hown' hgrow hown n1 n2 n3 n4 n5 n5' n6 n7 n8 r1 r2 r3 HN x0 x3 x4
          go_wp2_with fail
          go_roundw
          case rel => exact ⟨i + 1, a2, c2, pb, rfl, rfl, HA⟩
          case measure => simp [lenV]; omega
        · have l1 : decide ((i : Int) < most) = false := by simpa using hlt
          have him : i = m := by have := HM.out; omega
          obtain ⟨ps9, q1, q2, q3⟩ := HR.out.done (.inl him)
          have HB : Hid (Kp [] w wr ∧ ps9.length = i ∧ Row wr w.heap.size (.slice a i c) ps9 (row 4 m t).1 ∧ TmAt wr (row 4 m t).2 (some ⟨g, 0, none⟩)) := ⟨HR.out.kp, q1, q2, q3⟩
          clear h1 h2 h4 h5 h6 h7 HR hA hB ND q1 q2 q3 x3 x4 him hlt
          go_wp2_with fail
          refine bodyPost_ret (v := .tuple #[.slice a i c, .pointer (some ⟨g, 0, none⟩)]) (by simp [results, Try.results12, go_sem]) rfl ?_
          exact ⟨_, _, rfl, ps9, HB.out.1, HB.out.2.2.1, HB.out.2.2.2⟩
      · have k1 : (k2 == 4) = false := by simpa using hk
        obtain ⟨ps9, q1, q2, q3⟩ := HR.out.done (.inr ⟨k2, n, s, pa, pb, pc, ND, hk⟩)
        have HB : Hid (Kp [] w wr ∧ ps9.length = i ∧ Row wr w.heap.size (.slice a i c) ps9 (row 4 m t).1 ∧ TmAt wr (row 4 m t).2 (some ⟨g, 0, none⟩)) := ⟨HR.out.kp, q1, q2, q3⟩
        clear h1 h2 h4 h5 h6 h7 HR hA hB ND hk q1 q2 q3 x3 x4
        go_wp2_with fail
        refine bodyPost_ret (v := .tuple #[.slice a i c, .pointer (some ⟨g, 0, none⟩)]) (by simp [results, Try.results12, go_sem]) rfl ?_
        exact ⟨_, _, rfl, ps9, HB.out.1, HB.out.2.2.1, HB.out.2.2.2⟩
set_option maxHeartbeats 3200000 in
theorem rapply_any {w : World} {a : Option Addr} {n c : Nat} {ps : List (Option Addr)} {ts : List Tm} (hn : n = ps.length) (hreach : n ≤ 1000000000000) (hP : PtrsAt w w.heap.size a ps) (hT : TmsAt w ps ts) {t : Tm} {p : Option Addr} (hp : TmAt w t p) :
    Calls Try.prog 16 #[.pointer p, .slice a n c] w (MkPost (apply t ts) w) := by
  have M0 : Hid (Kp [] w w ∧ TmAt w (around 6 (ts.take 0) t) p) := ⟨Kp.refl _ _, hp⟩
  have HP := Lib.hid (And.intro hP (And.intro hT hn))
  unfold MkPost apply
  clear hP hT hp hn
  go_enter Try.func16, Try.ntmps16
  go_wp2_with fail
  go_loopw [0, 5] (fun x i wr => ∃ (k : Nat) (q : Option Addr), k ≤ n ∧ x = .pointer q ∧ i = .int .i64 (k : Int) ∧ Hid (Kp [] w wr ∧ TmAt wr (around 6 (ts.take k) t) q)) (fun _ i _ => n - (intOf i).toNat)
  case atStart => exact ⟨0, p, Nat.zero_le _, rfl, rfl, M0⟩
  case round =>
    clear M0
    obtain ⟨k, q, hk, rfl, rfl, HS⟩ := hrel
    by_cases hlt : k < n
    · have l1 : decide ((k : Int) < (n : Int)) = true := by simpa using hlt
      have l1' : decide (k < n) = true := by simpa using hlt
      obtain ⟨hP, hT, hn⟩ := HP.out
      obtain ⟨x, hx⟩ : ∃ x, ts[k]? = some x := ⟨ts[k]'(by rw [hT.1]; omega), List.getElem?_eq_getElem _⟩
      obtain ⟨qx, hqx⟩ : ∃ qx, ps[k]? = some qx := ⟨ps[k]'(by omega), List.getElem?_eq_getElem _⟩
      obtain ⟨g, o, rfl, hg, hc⟩ := (hP.kp (Nat.le_refl _) (Nat.le_refl _) HS.out.1) k qx hqx
      have HA := Lib.hid (app_any HS.out.2 ((hT.kp HS.out.1).2 _ _ _ hqx hx))
      have ht : around 6 (ts.take (k + 1)) t = .node 6 0 noS (around 6 (ts.take k) t) x .nil := take_next hx 6 t
      have HX := Lib.hid (And.intro HS.out.1 ht)
      unfold MkPost at HA
      clear HS hP hT hn hx hqx ht
      go_wp2_with (go_at_call 24; refine Calls.mono HA.out ?_; rintro e w2 ⟨q2, rfl, kk, tt⟩)
      go_roundw
      case rel => exact ⟨k + 1, q2, hlt, rfl, by go_num, HX.out.1.trans kk, by rw [HX.out.2]; exact tt⟩
      case measure => simp [intOf]; omega
    · have l1 : decide ((k : Int) < (n : Int)) = false := by simpa using hlt
      have l1' : decide (k < n) = false := by simpa using hlt
      have hkn : Hid (n ≤ k) := by show n ≤ k; omega
      clear hlt
      go_wp2_with fail
      go_ret
      obtain ⟨K, h⟩ := HS.out
      rw [List.take_of_length_le (by rw [HP.out.2.1.1, ← HP.out.2.2]; exact hkn.out)] at h
      exact ⟨q, rfl, K, h⟩
set_option maxHeartbeats 3200000 in
theorem rpi_any {w : World} {a : Option Addr} {n c : Nat} {ps : List (Option Addr)} {ts : List Tm} (hn : n = ps.length) (hreach : n ≤ 1000000000000) (hP : PtrsAt w w.heap.size a ps) (hT : TmsAt w ps ts) {t : Tm} {p : Option Addr} (hp : TmAt w t p) :
    Calls Try.prog 18 #[.slice a n c, .pointer p] w (MkPost (wrapK 4 ts t) w) := by
  have M0 : Hid (Kp [] w w ∧ TmAt w (around 4 (ts.reverse.take 0) t) p) := ⟨Kp.refl _ _, hp⟩
  have HP := Lib.hid (And.intro hP (And.intro hT hn))
  unfold MkPost wrapK
  clear hP hT hp hn
  go_enter Try.func18, Try.ntmps18
  go_wp2_with fail
  go_loopw [1, 5] (fun x y wr => ∃ (j : Nat) (q : Option Addr), j ≤ n ∧ x = .pointer q ∧ y = .int .i64 ((n : Int) - 1 - (j : Int)) ∧ Hid (Kp [] w wr ∧ TmAt wr (around 4 (ts.reverse.take j) t) q)) (fun _ y _ => (intOf y + 1).toNat)
  case atStart => exact ⟨0, p, Nat.zero_le _, rfl, by go_num, M0⟩
  case round =>
    clear M0
    obtain ⟨j, q, hj, rfl, rfl, HS⟩ := hrel
    by_cases hlt : j < n
    · obtain ⟨l, hl⟩ : ∃ l : Nat, l + 1 + j = n := ⟨n - 1 - j, by omega⟩
      have el : (n : Int) - 1 - (j : Int) = (l : Int) := by omega
      have l1 : decide ((0 : Int) ≤ (l : Int)) = true := by simp
      rw [el]
      obtain ⟨hP, hT, hn⟩ := HP.out
      obtain ⟨x, hx⟩ : ∃ x, ts[l]? = some x := ⟨ts[l]'(by rw [hT.1]; omega), List.getElem?_eq_getElem _⟩
      obtain ⟨qx, hqx⟩ : ∃ qx, ps[l]? = some qx := ⟨ps[l]'(by omega), List.getElem?_eq_getElem _⟩
      obtain ⟨g, o, rfl, hg, hc⟩ := (hP.kp (Nat.le_refl _) (Nat.le_refl _) HS.out.1) l qx hqx
      have HA := Lib.hid (pi_any ((hT.kp HS.out.1).2 _ _ _ hqx hx) HS.out.2)
      have hxr : ts.reverse[j]? = some x := by
        rw [List.getElem?_reverse (by rw [hT.1]; omega), show ts.length - 1 - j = l by rw [hT.1]; omega]
        exact hx
      have ht : around 4 (ts.reverse.take (j + 1)) t = .node 4 0 noS x (around 4 (ts.reverse.take j) t) .nil := take_next hxr 4 t
      have HX := Lib.hid (And.intro HS.out.1 ht)
      have hln : l < n := by omega
      unfold MkPost at HA
      clear HS hP hT hn hx hqx ht hxr
      go_wp2_with (go_at_call 26; refine Calls.mono HA.out ?_; rintro e w2 ⟨q2, rfl, kk, tt⟩)
      go_roundw
      case rel => exact ⟨j + 1, q2, hlt, rfl, by go_num, HX.out.1.trans kk, by rw [HX.out.2]; exact tt⟩
      case measure => simp [intOf]
    · have ej : (n : Int) - 1 - (j : Int) = -1 := by omega
      have hjn : Hid (n ≤ j) := by show n ≤ j; omega
      rw [ej]
      clear hlt
      go_wp2_with fail
      go_ret
      obtain ⟨K, h⟩ := HS.out
      rw [List.take_of_length_le (by rw [List.length_reverse, HP.out.2.1.1, ← HP.out.2.2]; exact hjn.out)] at h
      exact ⟨q, rfl, K, h⟩
set_option maxHeartbeats 3200000 in
theorem rlam_any {w : World} {a : Option Addr} {n c : Nat} {ps : List (Option Addr)} {ts : List Tm} (hn : n = ps.length) (hreach : n ≤ 1000000000000) (hP : PtrsAt w w.heap.size a ps) (hT : TmsAt w ps ts) {t : Tm} {p : Option Addr} (hp : TmAt w t p) :
    Calls Try.prog 20 #[.slice a n c, .pointer p] w (MkPost (wrapK 5 ts t) w) := by
  have M0 : Hid (Kp [] w w ∧ TmAt w (around 5 (ts.reverse.take 0) t) p) := ⟨Kp.refl _ _, hp⟩
  have HP := Lib.hid (And.intro hP (And.intro hT hn))
  unfold MkPost wrapK
  clear hP hT hp hn
  go_enter Try.func20, Try.ntmps20
  go_wp2_with fail
  go_loopw [1, 5] (fun x y wr => ∃ (j : Nat) (q : Option Addr), j ≤ n ∧ x = .pointer q ∧ y = .int .i64 ((n : Int) - 1 - (j : Int)) ∧ Hid (Kp [] w wr ∧ TmAt wr (around 5 (ts.reverse.take j) t) q)) (fun _ y _ => (intOf y + 1).toNat)
  case atStart => exact ⟨0, p, Nat.zero_le _, rfl, by go_num, M0⟩
  case round =>
    clear M0
    obtain ⟨j, q, hj, rfl, rfl, HS⟩ := hrel
    by_cases hlt : j < n
    · obtain ⟨l, hl⟩ : ∃ l : Nat, l + 1 + j = n := ⟨n - 1 - j, by omega⟩
      have el : (n : Int) - 1 - (j : Int) = (l : Int) := by omega
      have l1 : decide ((0 : Int) ≤ (l : Int)) = true := by simp
      rw [el]
      obtain ⟨hP, hT, hn⟩ := HP.out
      obtain ⟨x, hx⟩ : ∃ x, ts[l]? = some x := ⟨ts[l]'(by rw [hT.1]; omega), List.getElem?_eq_getElem _⟩
      obtain ⟨qx, hqx⟩ : ∃ qx, ps[l]? = some qx := ⟨ps[l]'(by omega), List.getElem?_eq_getElem _⟩
      obtain ⟨g, o, rfl, hg, hc⟩ := (hP.kp (Nat.le_refl _) (Nat.le_refl _) HS.out.1) l qx hqx
      have HA := Lib.hid (lam_any ((hT.kp HS.out.1).2 _ _ _ hqx hx) HS.out.2)
      have hxr : ts.reverse[j]? = some x := by
        rw [List.getElem?_reverse (by rw [hT.1]; omega), show ts.length - 1 - j = l by rw [hT.1]; omega]
        exact hx
      have ht : around 5 (ts.reverse.take (j + 1)) t = .node 5 0 noS x (around 5 (ts.reverse.take j) t) .nil := take_next hxr 5 t
      have HX := Lib.hid (And.intro HS.out.1 ht)
      have hln : l < n := by omega
      unfold MkPost at HA
      clear HS hP hT hn hx hqx ht hxr
      go_wp2_with (go_at_call 28; refine Calls.mono HA.out ?_; rintro e w2 ⟨q2, rfl, kk, tt⟩)
      go_roundw
      case rel => exact ⟨j + 1, q2, hlt, rfl, by go_num, HX.out.1.trans kk, by rw [HX.out.2]; exact tt⟩
      case measure => simp [intOf]
    · have ej : (n : Int) - 1 - (j : Int) = -1 := by omega
      have hjn : Hid (n ≤ j) := by show n ≤ j; omega
      rw [ej]
      clear hlt
      go_wp2_with fail
      go_ret
      obtain ⟨K, h⟩ := HS.out
      rw [List.take_of_length_le (by rw [List.length_reverse, HP.out.2.1.1, ← HP.out.2.2]; exact hjn.out)] at h
      exact ⟨q, rfl, K, h⟩
set_option maxHeartbeats 3200000 in
theorem rvars_any (n : Nat) (f : Nat) (hn : n ≤ 1000) (hf : f ≤ 1000000) (w : World) : Calls Try.prog 22 #[.int .i64 (n : Int), .int .i64 (f : Int)] w (VarsPost w (vars n (f : Int))) := by
  obtain ⟨i0, hi0, hz0, hz1, hz2⟩ := info_parts ptrInfo
  have Hi := Lib.hid hi0
  have M0 : Hid (Kp [] w w ∧ ∃ qs, qs.length = 0 ∧ Row w w.heap.size (.slice none 0 0) qs ((vars n (f : Int)).take 0)) := ⟨Kp.refl _ _, [], rfl, by simpa using Row.nil _ _⟩
  unfold VarsPost
  clear hi0
  go_enter Try.func22, Try.ntmps22
  go_wp2_with fail
  go_loopw [5, 6] (fun v y wr => ∃ (j : Nat) (a2 : Option Addr) (c2 : Nat), j ≤ n ∧ v = .slice a2 j c2 ∧ y = .int .i64 ((n : Int) - 1 - (j : Int)) ∧ Hid (Kp [] w wr ∧ ∃ qs, qs.length = j ∧ Row wr w.heap.size (.slice a2 j c2) qs ((vars n (f : Int)).take j))) (fun _ y _ => (intOf y + 1).toNat)
  case atStart => exact ⟨0, none, 0, Nat.zero_le _, rfl, by go_num, M0⟩
  case round =>
    clear M0
    obtain ⟨j, a2, c2, hj, rfl, rfl, HS⟩ := hrel
    by_cases hlt : j < n
    · obtain ⟨l, hl⟩ : ∃ l : Nat, l + 1 + j = n := ⟨n - 1 - j, by omega⟩
      have el : (n : Int) - 1 - (j : Int) = (l : Int) := by omega
      have l1 : decide ((0 : Int) ≤ (l : Int)) = true := by simp
      rw [el]
      have e1 : IntKind.i64.wrap ((f : Int) + (l : Int)) = (f : Int) + (l : Int) := wrap_k rfl (by omega) (by omega)
      have htake : (vars n (f : Int)).take (j + 1) = (vars n (f : Int)).take j ++ [vr ((f : Int) + (l : Int))] := by
        rw [List.take_add_one]
        unfold vars
        rw [List.getElem?_map, List.getElem?_range hlt]
        have : (f : Int) + (n : Int) - 1 - (j : Int) = (f : Int) + (l : Int) := by omega
        simp [this]
      have HV := Lib.hid (var_any ((f : Int) + (l : Int)) wr)
      unfold MkPost at HV
      obtain ⟨K, qs, b1, b2⟩ := HS.out
      have HX := Lib.hid (And.intro K (And.intro b1 (And.intro b2 htake)))
      clear HS htake K b1 b2
      go_wp2_with (first
        | (go_at_call 25; (try rw [e1]); refine Calls.mono HV.out ?_; rintro e w2 ⟨q2, rfl, kk, tt⟩; have HT := Lib.hid (And.intro kk tt); have hown : w2.ownsRow w.heap.size 24 1 (.slice a2 j c2) j (qs.map Value.pointer) := (by
            have h2 := (HX.out.2.2.1.kp0 kk).own
            rw [HX.out.2.1] at h2
            exact h2); have hws : w.heap.size ≤ w2.heap.size := (HX.out.1.trans kk).size; clear kk tt)
        | (at_builtin; refine wpList_append_own _ rfl _ _ 26 rfl w.heap.size 24 i0 (.pointer none) 1 8 Try.underlying26 Hi.out hz0 hz1 hz2 rfl (by decide) _ j (qs.map Value.pointer) rfl (hown.alloc _) ⟨w2.heap.size, 0, none⟩ 1 1 [.pointer q2] rfl rfl ?c1 ?c2 ?c3 ?c4 ?c5 ?_))
      case c1 =>
        intro j u hj
        match j, hj with
        | 0, hj => simp at hj; subst hj; simp [Addr.add]
      case c2 => intro u hu; simp at hu; subst hu; rfl
      case c3 => unfold maxLen; omega
      case c4 => omega
      case c5 => simp; omega
      intro v' w3 hown' hgrow _
      obtain ⟨a3, c3, rfl, r1, r2, r3⟩ := (HX.out.2.2.1.kp0 HT.out.1).grow HX.out.2.1 HT.out.2 hown' hgrow
      have HA : Hid (Kp [] w w3 ∧ ∃ qs, qs.length = j + 1 ∧ Row w3 w.heap.size (.slice a3 (j + 1) c3) qs ((vars n (f : Int)).take (j + 1))) := ⟨r3 w (HX.out.1.trans HT.out.1) (Nat.le_refl _), _, r1, by rw [HX.out.2.2.2]; exact r2⟩
      clear hown' hgrow hown r1 r2 r3 HX HT HV
      go_wp2_with fail
      go_roundw
      case rel => exact ⟨j + 1, a3, c3, hlt, rfl, by go_num, HA⟩
      case measure => simp [intOf]
    · have ej : (n : Int) - 1 - (j : Int) = -1 := by omega
      have hjn : Hid (j = n) := by show j = n; omega
      rw [ej]
      clear hlt
      go_wp2_with fail
      go_ret
      obtain ⟨K, qs, b1, b2⟩ := HS.out
      rw [List.take_of_length_le (by unfold vars; rw [List.length_map, List.length_range, hjn.out]; exact Nat.le_refl _)] at b2
      exact ⟨_, qs, rfl, K, b2⟩
/-- A call that answers yes, and changes nothing that was. -/
def YesPost (w : World) (e : Ending) (w2 : World) : Prop := e = .returned (.bool true) ∧ Kp [] w w2
theorem same_yes {w : World} {t u : Tm} {p q : Option Addr} (e : t = u) (ht : TmAt w t p) (hu : TmAt w u q) : Calls Try.prog 13 #[.pointer p, .pointer q] w (YesPost w) := by
  refine (same_any t u w p q ht hu).mono (fun en w2 ⟨h1, n, h2⟩ => ?_)
  rw [decide_eq_true e] at h1
  exact ⟨h1, by rw [h2]; exact (Kp.refl [] w).drewN n⟩
set_option maxHeartbeats 3200000 in
theorem sameAll_yes {w : World} {a a2 : Option Addr} {n c c2 : Nat} {ps qs : List (Option Addr)} {ts us : List Tm} (hn : n = ps.length) (hn2 : n = qs.length) (hreach : n ≤ 1000000000000) (hP : PtrsAt w w.heap.size a ps) (hQ : PtrsAt w w.heap.size a2 qs) (hT : TmsAt w ps ts) (hU : TmsAt w qs us) (e : ts = us) :
    Calls Try.prog 14 #[.slice a n c, .slice a2 n c2] w (YesPost w) := by
  subst e
  have HP := Lib.hid (And.intro hP (And.intro hQ (And.intro hT (And.intro hU (And.intro hn hn2)))))
  have M0 : Hid (Kp [] w w) := Kp.refl _ _
  unfold YesPost
  clear hP hQ hT hU hn hn2
  go_enter Try.func14, Try.ntmps14
  go_wp2_with fail
  go_loopw [5] (fun i wr => ∃ (k : Nat), k ≤ n ∧ i = .int .i64 (k : Int) ∧ Hid (Kp [] w wr)) (fun i _ => n - (intOf i).toNat)
  case atStart => exact ⟨0, Nat.zero_le _, rfl, M0⟩
  case round =>
    clear M0
    obtain ⟨k, hk, rfl, HS⟩ := hrel
    by_cases hlt : k < n
    · have l1 : decide ((k : Int) < (n : Int)) = true := by simpa using hlt
      have l1' : decide (k < n) = true := by simpa using hlt
      obtain ⟨hP, hQ, hT, hU, hn, hn2⟩ := HP.out
      obtain ⟨x, hx⟩ : ∃ x, ts[k]? = some x := ⟨ts[k]'(by rw [hT.1]; omega), List.getElem?_eq_getElem _⟩
      obtain ⟨qx, hqx⟩ : ∃ qx, ps[k]? = some qx := ⟨ps[k]'(by omega), List.getElem?_eq_getElem _⟩
      obtain ⟨qy, hqy⟩ : ∃ qy, qs[k]? = some qy := ⟨qs[k]'(by omega), List.getElem?_eq_getElem _⟩
      have kd : Kp [] w wr.drew := HS.out.drew
      obtain ⟨g, o, rfl, hg, hc⟩ := (hP.kp (Nat.le_refl _) (Nat.le_refl _) kd) k qx hqx
      obtain ⟨g2, o2, rfl, hg2, hc2⟩ := (hQ.kp (Nat.le_refl _) (Nat.le_refl _) kd) k qy hqy
      have d1 : wr.cell? ⟨g, o + k, none⟩ = some (.pointer qx) := hc
      have d2 : wr.cell? ⟨g2, o2 + k, none⟩ = some (.pointer qy) := hc2
      have HA := Lib.hid (same_yes rfl ((hT.kp kd).2 _ _ _ hqx hx) ((hU.kp kd).2 _ _ _ hqy hx))
      have KD := Lib.hid kd
      unfold YesPost at HA
      have S0 : Hid (∀ W, Kp [] wr.drew W → W.cell? ⟨g, o + k, none⟩ = some (.pointer qx) ∧ W.cell? ⟨g2, o2 + k, none⟩ = some (.pointer qy)) := fun W K => ⟨(K.cell0 (World.block_lt_of_cell? _ _ hc)).trans hc, (K.cell0 (World.block_lt_of_cell? _ _ hc2)).trans hc2⟩
      clear HS hP hQ hT hU hn hn2 hx hqx hqy kd
      go_wp2_with fail
      go_region_held3 (fun w' => w'.cell? ⟨g, o + k, none⟩ = some (.pointer qx) ∧ w'.cell? ⟨g2, o2 + k, none⟩ = some (.pointer qy)) (first | exact ⟨hc, hc2⟩ | exact S0.out _ K1) ((go_at_call 13; refine Calls.mono HA.out ?_; rintro e w2 ⟨rfl, K1⟩))
      all_goals
        go_wp2_with fail
        go_roundw
        case rel => exact ⟨k + 1, hlt, by go_num, KD.out.trans K1⟩
        case measure => simp [intOf]; omega
    · have l1 : decide ((k : Int) < (n : Int)) = false := by simpa using hlt
      have l1' : decide (k < n) = false := by simpa using hlt
      clear hlt hk
      go_wp2_with fail
      go_ret
      exact ⟨rfl, HS.out⟩
end Go.Proofs.Ytcfhhabjiofehaa
