/- span, All of mask. -/
import Derived.Test.YtjolkcomlindhaaMW2
namespace Go.Proofs.Ytjolkcomlindhaa.Mo
open Go.RowKit

theorem bmore {a b c : World} (h : Below a.heap.size a b) (k : Below b.heap.size b c) : Below a.heap.size a c := h.trans (k.mono h.size)

theorem zero_len {l : List Nat} (h : Mk.W4 l) : Mk.zero.length = l.length := by rw [h.1]; rfl
theorem len_zero {l : List Nat} (h : Mk.W4 l) : l.length = Mk.zero.length := by rw [h.1]; rfl
theorem len_len {l m : List Nat} (h : Mk.W4 l) (k : Mk.W4 m) : l.length = m.length := by rw [h.1, k.1]
theorem info33' {l : List Nat} (h : Mk.W4 l) : (Try.prog.info? 104).map (·.size) = some l.length := by rw [h.1]; exact info33

end Go.Proofs.Ytjolkcomlindhaa.Mo
