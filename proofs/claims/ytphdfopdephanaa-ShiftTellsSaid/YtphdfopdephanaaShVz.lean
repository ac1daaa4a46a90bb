/- What Term gave, told for the walks of the laws. -/
import Derived.Test.YtphdfopdephanaaShU
namespace Go.Proofs.Ytphdfopdephanaa
open Go.RowKit Go.ChangeMaps

/-- What Term gave. -/
def RT (w : World) (q : Option Addr) : Prop := q = none ∨ ∃ t, Read w t q
theorem RT.kp {w w2 : World} {q : Option Addr} (h : RT w q) (K : Kp [] w w2) : RT w2 q := h.imp id (fun ⟨t, h⟩ => ⟨t, h.kp K⟩)
theorem Read.tok {w : World} {t : Tm} {q : Option Addr} (h : Read w t q) : TOk w t q 100000 3000 := ⟨h.at', h.ok, Nat.le_trans (Tm.ht_le t) h.sz⟩
end Go.Proofs.Ytphdfopdephanaa
