/- Contract of Words. -/
import Derived.Test.YtmhnjgnljfkdcaaDoorLxD
namespace Go.Proofs.YtmhnjgnljfkdcaaDoor
open Go.RowKit

/-- A new []string. -/
def OwnStrs (w : World) (B : Nat) (v : Value) (l : List ByteArray) : Prop := w.ownsRow B 9 1 v l.length (l.map Value.string)
theorem strInfo : (Tryd.prog.info? 9).map (fun i => (i.zero, i.size, i.bytes)) = some (some (.string ⟨#[]⟩), 1, 16) := by kernel_rfl
theorem OwnStrs.form {w : World} {B : Nat} {v : Value} {l : List ByteArray} (h : OwnStrs w B v l) : ∃ a c, v = .slice a l.length c ∧ StrsAt w w.heap.size a l.length (fun i => l.getD i ⟨#[]⟩) ∧ ∀ g, v.ownBlock = some g → B ≤ g ∧ g < w.heap.size := by
  obtain ⟨h1, ⟨rfl, h0⟩ | ⟨g, cap, cur, rfl, hb, hg, h2, h3, h4, h5⟩⟩ := h
  · exact ⟨none, 0, by rw [h0], fun i hi => by omega, fun g hg => by cases hg⟩
  · have hlt : g < w.heap.size := by
      rcases Nat.lt_or_ge g w.heap.size with hlt | hge
      · exact hlt
      · rw [Array.getElem?_eq_none hge] at hg; cases hg
    refine ⟨_, cap, rfl, fun i hi => ⟨g, 0, rfl, hlt, ?_⟩, fun g2 hg2 => ?_⟩
    · have h6 : (l.map Value.string)[i]? = some (.string (l.getD i ⟨#[]⟩)) := by
        rw [List.getElem?_map, List.getElem?_eq_getElem hi]
        simp [List.getD, List.getElem?_eq_getElem hi]
      simp only [World.cell?, hg, Nat.zero_add]
      rw [← h5, List.getElem?_take] at h6
      split at h6
      · rw [← Array.getElem?_toList]; exact h6
      · cases h6
    · obtain rfl : g = g2 := by simpa [Value.ownBlock] using hg2
      exact ⟨hb, hlt⟩
theorem OwnStrs.grown {w w2 w3 : World} {a : Option Addr} {k c : Nat} {l : List ByteArray} {xs : List Value} {v' : Value} {t : ByteArray} {ob : Obj} (hl2 : w2.ownsRow w.heap.size 9 1 (.slice a k c) k xs) (K : Kp [] w w2) (hgrow : (w2.alloc ob).grownBy w3 (Value.slice a k c).ownBlock) (hown' : w3.ownsRow w.heap.size 9 1 v' (k + 1) (xs ++ [.string t])) (hl : l.length = k) (hx : xs = l.map Value.string) :
    Kp [] w w3 ∧ OwnStrs w3 w.heap.size v' (l ++ [t]) := by
  refine ⟨(K.alloc _).grown hgrow (fun g hg => ?_), ?_⟩
  · rcases hl2.2 with ⟨h, _⟩ | ⟨g2, cap, cur, h, hb, _⟩
    · rw [h] at hg; cases hg
    · rw [h] at hg
      obtain rfl : g2 = g := by simpa [Value.ownBlock] using hg
      exact .inr hb
  · unfold OwnStrs
    rw [List.length_append, List.map_append, hl, ← hx]
    exact hown'
def mkB (l : List UInt8) : ByteArray := ⟨l.toArray⟩
theorem mkB_list (l : List UInt8) : (mkB l).data.toList = l := rfl
theorem mkB_of (s : ByteArray) : mkB s.data.toList = s := rfl
theorem mkB_size (l : List UInt8) : (mkB l).size = l.length := by rw [Lib.size_eq, mkB_list]
theorem take_ext (s : ByteArray) (n : Nat) : s.extract 0 n = mkB (s.data.toList.take n) := by
  rw [← mkB_of (s.extract 0 n), Lib.extract_data, List.drop_zero, Nat.sub_zero]
/-- A text's words, as the program holds them. -/
def res (l : List UInt8) : Option (List ByteArray) := (wordsL l).map (·.map mkB)
def trimB (l : List UInt8) : List UInt8 := l.dropWhile (blanks.contains ·)
theorem res_trim (l : List UInt8) : res (trimB l) = res l := by unfold res trimB; rw [wordsL_trim]
theorem trimB_le : ∀ l : List UInt8, (trimB l).length ≤ l.length
  | [] => Nat.le_refl _
  | x :: l => by
    unfold trimB
    rw [List.dropWhile_cons]
    have := trimB_le l
    unfold trimB at this
    split
    · simp only [List.length_cons]; omega
    · exact Nat.le_refl _
/-- At its front no blank. -/
def NoBlank (l : List UInt8) : Prop := ∀ b r, l = b :: r → blankB b = false
theorem noBlank_trim (l : List UInt8) : NoBlank (trimB l) := fun _ _ h => trim_head h
theorem res_none {l : List UInt8} (h : NoBlank l) (hne : l ≠ []) (hz : sizeL l = 0) : res l = none := by
  match l, hne with
  | b :: r, _ => unfold res; rw [wordsL_none (h b r rfl) hz]; rfl
theorem res_word {l : List UInt8} (h : NoBlank l) (hz : sizeL l ≠ 0) : res l = (res (l.drop (sizeL l))).map (mkB (l.take (sizeL l)) :: ·) := by
  match l, hz with
  | [], hz => exact absurd rfl hz
  | b :: r, hz =>
    unfold res
    rw [wordsL_word (h b r rfl) hz, Option.map_map, Option.map_map]
    rfl
theorem trim116 : (Tryd.prog.info? 54).map (fun i => (i.zero, i.size)) = some (some (.agg (Array.replicate 256 (.bool false))), 256) := by kernel_rfl
theorem trim_is (s : ByteArray) (w : World) : Calls Tryd.prog 13 #[.string s, .string ⟨#[32, 9, 10, 13]⟩] w fun e w2 => ∃ r : ByteArray, e = .returned (.string r) ∧ r.data.toList = trimB s.data.toList ∧ Kp [] w w2 := by
  refine (Any.strings_TrimLeft_laid Tryd.lays161 trim116 s ⟨#[32, 9, 10, 13]⟩ w (by decide) (ascii_of_all (by decide))).mono ?_
  rintro e w2 ⟨rfl, hB⟩
  exact ⟨_, rfl, rfl, Kp.of_below hB _⟩
/-- An error of the package. -/
def FErr (c : Int) (v : Value) : Prop := ∃ i : Int, v = .iface 42 (.agg #[.int .i64 i, .int .i64 c])
/-- What Words answers. -/
def WordsPost (s : ByteArray) (w : World) (e : Ending) (w2 : World) : Prop :=
  Kp [] w w2 ∧ ((2000 < s.size ∧ ∃ v, FErr 13 v ∧ e = .returned (.tuple #[.slice none 0 0, v])) ∨
    (s.size ≤ 2000 ∧ res s.data.toList = none ∧ ∃ v, FErr 10 v ∧ e = .returned (.tuple #[.slice none 0 0, v])) ∨
    (s.size ≤ 2000 ∧ ∃ v ws, res s.data.toList = some ws ∧ e = .returned (.tuple #[v, .nilIface]) ∧ OwnStrs w2 w.heap.size v ws))
/-- Between two rounds. -/
structure WMid (all : List UInt8) (w0 w : World) (k : Nat) (rest : ByteArray) (v : Value) : Prop where
  kp : Kp [] w0 w
  nb : NoBlank rest.data.toList
  ex : ∃ l : List ByteArray, l.length = k ∧ OwnStrs w w0.heap.size v l ∧ (res rest.data.toList).map (l ++ ·) = res all
theorem empty_list {s : ByteArray} (h : s.toList.isEmpty = true) : s.data.toList = [] := by
  rw [Lib.toList_data] at h
  exact List.isEmpty_iff.1 h
theorem nonempty_size {s : ByteArray} (h : s.toList.isEmpty = false) : 0 < s.size := by
  rw [Lib.toList_data] at h
  rw [Lib.size_eq]
  cases hl : s.data.toList with
  | nil => rw [hl] at h; cases h
  | cons _ _ => simp
set_option maxHeartbeats 3200000 in
set_option maxRecDepth 20000 in
theorem words_any (s : ByteArray) (w : World) : Calls Tryd.prog 8 #[.string s] w (WordsPost s w) := by
  by_cases hs : 2000 < s.size
  · have d1 : decide ((2000 : Int) < (s.size : Int)) = true := by simp; omega
    have Hs := Lib.hid hs
    clear hs
    go_enter Tryd.func8, Tryd.ntmps8
    go_wp2_with fail
    go_ret2
    exact ⟨Kp.refl [] w, .inl ⟨Hs.out, _, ⟨2000, rfl⟩, rfl⟩⟩
  have d1 : decide ((2000 : Int) < (s.size : Int)) = false := by simp; omega
  have hs9 : s.size ≤ 2000 := by omega
  obtain ⟨i0, hi0, hz0, hz1, hz2⟩ := info_parts strInfo
  have Hi := Lib.hid hi0
  clear hi0 hs
  go_enter Tryd.func8, Tryd.ntmps8
  go_wp2_with fail
  refine Calls.mono (trim_is s w) ?_
  rintro e w1 ⟨r0, rfl, hr, K⟩
  have M0 : Hid (WMid s.data.toList w w1 0 r0 (.slice none 0 0)) := ⟨K, by rw [hr]; exact noBlank_trim _, [], rfl, ⟨rfl, .inl ⟨rfl, rfl⟩⟩, by rw [hr, res_trim]; simp⟩
  have hr9 : r0.size ≤ s.size := by rw [Lib.size_eq, Lib.size_eq s, hr]; exact trimB_le _
  clear hr K
  go_wp2_with fail
  go_loopw [4, 5] (fun v r wr => ∃ (k : Nat) (rest : ByteArray) (a : Option Addr) (c : Nat), v = .slice a k c ∧ r = .string rest ∧ rest.size + k ≤ s.size ∧ Hid (WMid s.data.toList w wr k rest (.slice a k c))) (fun _ r _ => Lib.strSize r)
  case atStart => exact ⟨0, r0, none, 0, rfl, rfl, by omega, M0⟩
  case round =>
    clear M0 hr9
    obtain ⟨k, rest, a, c, rfl, rfl, hk, HM⟩ := hrel
    cases he : rest.toList.isEmpty with
    | true =>
      have HR : Hid (∃ l : List ByteArray, l.length = k ∧ OwnStrs wr w.heap.size (.slice a k c) l ∧ res s.data.toList = some l) := by
        obtain ⟨l, h1, h2, h3⟩ := HM.out.ex
        rw [empty_list he] at h3
        refine ⟨l, h1, h2, ?_⟩
        rw [← h3]
        show (some []).map (l ++ ·) = some l
        simp
      go_wp2_with fail
      go_ret2
      obtain ⟨l, h1, h2, h3⟩ := HR.out
      exact ⟨HM.out.kp, .inr (.inr ⟨hs9, _, l, h3, rfl, h2⟩)⟩
    | false =>
      have hpos := nonempty_size he
      have hr9 : rest.size ≤ 2000 := by omega
      have hF := first_is rest hpos (by omega) wr
      have hn9 : sizeL rest.data.toList ≤ rest.size := by rw [Lib.size_eq]; exact sizeL_le _
      obtain ⟨n, hn⟩ : ∃ n, n = sizeL rest.data.toList := ⟨_, rfl⟩
      rw [← hn] at hF hn9
      have HF := Lib.hid hF
      have Hn := Lib.hid hn
      clear hF hn
      by_cases hz : n = 0
      · subst hz
        have HN : Hid (res s.data.toList = none) := by
          obtain ⟨l, h1, h2, h3⟩ := HM.out.ex
          have hne : rest.data.toList ≠ [] := fun h => by rw [Lib.size_eq, h] at hpos; exact absurd hpos (by simp)
          rw [res_none HM.out.nb hne Hn.out.symm] at h3
          exact h3.symm
        have HK := Lib.hid HM.out.kp
        clear HM
        go_wp2_with fail
        refine Calls.mono HF.out ?_
        rintro e w2 ⟨rfl, hw⟩
        have hw := hw.symm
        subst hw
        go_wp2_with fail
        go_ret2
        exact ⟨HK.out, .inr (.inl ⟨hs9, HN.out, _, ⟨_, rfl⟩, rfl⟩)⟩
      · have z0 : ((n : Int) == 0) = false := by simp; omega
        have hk9 : k ≤ 2000 := by omega
        have hkk : rest.size + k ≤ s.size := hk
        have hown : Hid (∃ l : List ByteArray, l.length = k ∧ wr.ownsRow w.heap.size 9 1 (.slice a k c) k (l.map Value.string) ∧ (res rest.data.toList).map (l ++ ·) = res s.data.toList) := by
          obtain ⟨l, h1, h2, h3⟩ := HM.out.ex
          unfold OwnStrs at h2
          rw [h1] at h2
          exact ⟨l, h1, h2, h3⟩
        obtain ⟨l, hl1, hl2, hl3⟩ := hown.out
        have HY : Hid ((res (rest.data.toList.drop n)).map ((l ++ [rest.extract 0 n]) ++ ·) = res s.data.toList) := by
          rw [← hl3, res_word HM.out.nb (by rw [← Hn.out]; exact hz), ← Hn.out, take_ext, Option.map_map]
          congr 1
          funext x
          simp
        have K2 := Lib.hid HM.out.kp
        have hsz : w.heap.size ≤ wr.heap.size := K2.out.size
        have Hl1 := Lib.hid hl1
        obtain ⟨xs, hxs⟩ : ∃ xs, xs = l.map Value.string := ⟨_, rfl⟩
        rw [← hxs] at hl2
        have Hxs := Lib.hid hxs
        have HT := Lib.hid (trim_is (rest.extract n rest.size))
        have Hz := Lib.hid hz
        clear hl1 hl3 hxs HM hown
        go_wp2_with fail
        refine Calls.mono HF.out ?_
        rintro e w2 ⟨rfl, hw⟩
        have hw := hw.symm
        subst hw
        go_wp2_with (at_builtin; refine wpList_append_own _ rfl _ _ 23 rfl w.heap.size 9 i0 (.string ⟨#[]⟩) 1 16 Tryd.underlying23 Hi.out hz0 hz1 hz2 rfl (by decide) _ k xs rfl (hl2.alloc _) ⟨wr.heap.size, 0, none⟩ 1 1 [.string (rest.extract 0 n)] rfl rfl ?c1 ?c2 ?c3 ?c4 ?c5 ?_)
        case c1 =>
          intro j u hj
          match j, hj with
          | 0, hj => simp at hj; subst hj; simp [Addr.add]
        case c2 => intro u hu; simp at hu; subst hu; rfl
        case c3 => unfold maxLen; omega
        case c4 => omega
        case c5 => simp; omega
        intro v' w3 hown' hgrow _
        obtain ⟨K3, O3⟩ := OwnStrs.grown hl2 K2.out hgrow hown' Hl1.out Hxs.out
        have HK3 := Lib.hid K3
        have HO3 := Lib.hid O3
        obtain ⟨a2, c2, rfl⟩ : ∃ a2 c2, v' = .slice a2 (k + 1) c2 := by
          obtain ⟨a, c, h4, _, _⟩ := O3.form
          rw [List.length_append, Hl1.out] at h4
          exact ⟨a, c, h4⟩
        clear hown' hgrow hl2 K3 O3 K2
        go_wp2_with fail
        refine Calls.mono (HT.out _) ?_
        rintro e w4 ⟨r, rfl, hr, K4⟩
        have hrs : r.size + 1 ≤ rest.size := by
          have h1 : r.size ≤ (rest.extract n rest.size).size := by rw [Lib.size_eq, Lib.size_eq (rest.extract n rest.size), hr]; exact trimB_le _
          rw [ByteArray.size_extract] at h1
          have := Hz.out
          omega
        have H5 : Hid (WMid s.data.toList w w4 (k + 1) r (.slice a2 (k + 1) c2)) := by
          refine ⟨HK3.out.trans K4, by rw [hr]; exact noBlank_trim _, l ++ [rest.extract 0 n], by simp [Hl1.out], K4.owns HO3.out (fun g _ hm => by cases hm), ?_⟩
          rw [hr, res_trim, Lib.extract_to_end]
          exact HY.out
        have Hrs := Lib.hid hrs
        clear hr K4 HK3 HO3 hrs
        go_wp2_with fail
        go_roundw
        case rel => exact ⟨k + 1, r, a2, c2, rfl, rfl, by have := Hrs.out; omega, H5⟩
        case measure => have := Hrs.out; simp [Lib.strSize]; omega
end Go.Proofs.YtmhnjgnljfkdcaaDoor
