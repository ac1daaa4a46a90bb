/- Contracts of the reference's parts, Var. -/
import Derived.Test.YtcfhhabjiofehaaSpC
namespace Go.Proofs.Ytcfhhabjiofehaa
open Go.RowKit Go.ChangeMaps

def isLeaf (k : Int) : Prop := k = 1 ∨ k = 2 ∨ k = 3
def isInner (k : Int) : Prop := k = 4 ∨ k = 5 ∨ k = 6 ∨ k = 7
theorem parts_leaf {k : Int} (hk : k = 1 ∨ k = 2 ∨ k = 3) (w : World) :
    Calls Try.prog 46 #[.int .i64 k] w fun e w2 => e = .returned (.int .i64 0) ∧ w2 = w := by
  rcases hk with rfl | rfl | rfl
  all_goals
    go_enter Try.func46, Try.ntmps46
    go_wp2
    go_ret
    exact ⟨rfl, rfl⟩
theorem parts_inner {k : Int} (hk : k = 4 ∨ k = 5 ∨ k = 6 ∨ k = 7) (w : World) :
    Calls Try.prog 46 #[.int .i64 k] w fun e w2 => ∃ v : Int, e = .returned (.int .i64 v) ∧ (v == 0) = false ∧ w2 = w := by
  rcases hk with rfl | rfl | rfl | rfl
  all_goals
    go_enter Try.func46, Try.ntmps46
    go_wp2
    go_ret
    exact ⟨_, rfl, rfl, rfl⟩
/-- A call that makes a term and changes nothing that was. -/
def MkPost (t : Tm) (w : World) (e : Ending) (w2 : World) : Prop := ∃ q, e = .returned (.pointer q) ∧ Kp [] w w2 ∧ TmAt w2 t q
theorem var_any (n : Int) (w : World) : Calls Try.prog 25 #[.int .i64 n] w (MkPost (vr n) w) := by
  unfold MkPost
  go_enter Try.func25, Try.ntmps25
  go_wp2_with fail
  go_ret
  exact ⟨_, rfl, (Kp.refl [] w).alloc _, TmP.new (P := fun _ => True) trivial rfl rfl rfl⟩
theorem wrap_id {a b : Int} (h : a = b) (h1 : -1000000000000000 ≤ b) (h2 : b ≤ 1000000000000000) : IntKind.i64.wrap a = b := by
  rw [IntKind.wrap_i64]; omega
theorem size_alloc' (w : World) (o : Obj) : (w.alloc o).heap.size = w.heap.size + 1 := by simp
theorem heap_set {w : World} {b i : Nat} {cs : Array Value} {T : TypeId} (h : w.heap[b]? = some (.cells cs T (0, 0))) (v : Value) : (w.setCell ⟨b, i, none⟩ v).heap[b]? = some (.cells (cs.setIfInBounds i v) T (0, 0)) := by
  rw [World.setCell, Array.getElem?_modify, if_pos rfl, h]
  rfl
def ndO (k n : Int) (s : ByteArray) (pa pb pc : Option Addr) : Obj := .cells #[.int .i64 k, .int .i64 n, .string s, .pointer pa, .pointer pb, .pointer pc] 40
def nv (k n : Int) (s : ByteArray) (pa pb pc : Option Addr) : Value := .agg #[.int .i64 k, .int .i64 n, .string s, .pointer pa, .pointer pb, .pointer pc]
theorem NdAt.set3 {w : World} {g : Nat} {k n : Int} {s : ByteArray} {pa pb pc : Option Addr} (h : NdAt w g k n s pa pb pc) (q : Option Addr) : NdAt (w.setCell ⟨g, 3, none⟩ (.pointer q)) g k n s q pb pc := heap_set h _
theorem NdAt.set4 {w : World} {g : Nat} {k n : Int} {s : ByteArray} {pa pb pc : Option Addr} (h : NdAt w g k n s pa pb pc) (q : Option Addr) : NdAt (w.setCell ⟨g, 4, none⟩ (.pointer q)) g k n s pa q pc := heap_set h _
theorem NdAt.set5 {w : World} {g : Nat} {k n : Int} {s : ByteArray} {pa pb pc : Option Addr} (h : NdAt w g k n s pa pb pc) (q : Option Addr) : NdAt (w.setCell ⟨g, 5, none⟩ (.pointer q)) g k n s pa pb q := heap_set h _
end Go.Proofs.Ytcfhhabjiofehaa
