/- The document's All, of masks and of layouts. -/
import Derived.Test.YthmlibapjhmdbaaW17
namespace Go.Proofs.Ythmlibapjhmdbaa
open Go.RowKit Go.Shelf

/-- Numbers as ints. -/
def nv (l : List Nat) : List Value := l.map fun x : Nat => Value.int .i64 (x : Int)
theorem nv_snoc (l : List Nat) (x : Nat) : nv (l ++ [x]) = nv l ++ [Value.int .i64 (x : Int)] := by simp [nv]
theorem cv_nv (l : List Core) : cv l = nv (l.map (·.1)) := by simp [cv, nv]
theorem nats_nv {w : World} {base n cap : Nat} {xs : List Nat} {A : Option Addr} (hn : xs.length = n) (h : w.ownsRow base 3 1 (.slice A n cap) n (nv xs)) : NatsAt w w.heap.size A xs := by
  rcases h.2 with ⟨h0, h1⟩ | ⟨g', cap', cur, h1, h2, h3, h4, h5, h6, h7⟩
  · subst h1; exact .inl (List.length_eq_zero_iff.1 hn)
  · cases h1
    refine .inr ⟨_, rfl, (Array.getElem?_eq_some_iff.1 h3).1, fun j hj => ?_⟩
    have hadd : (⟨g', 0, none⟩ : Addr).add j = ⟨g', j, none⟩ := by unfold Addr.add; split <;> simp_all
    rw [hadd, cell_of_row w g' j cur 3 (0, 0) h3]
    have e1 : cur[j]? = (nv xs)[j]? := by
      rw [← h7, List.getElem?_take, if_pos (by omega)]; simp
    rw [e1]
    simp [nv, Mk.nth_getElem?, hj]
/-- Behind an append onto a slice of its own: what lies below is as it was. -/
theorem appended_below {W w1 : World} {n₀ : Nat} {e : TypeId} {size : Nat} {v : Value} {k : Nat} {xs : List Value} {tmp : Obj} (hrow : W.ownsRow n₀ e size v k xs) (hn₀ : n₀ ≤ W.heap.size) (hgrow : (W.alloc tmp).grownBy w1 v.ownBlock) : Below n₀ W w1 := by
  refine ((Below.refl n₀ W).alloc hn₀ tmp).grown hgrow (by simp; omega) fun j ej => ?_
  rcases hrow.2 with ⟨rfl, _⟩ | ⟨g, cap, cur, rfl, hb, _, _⟩
  · simp [Value.ownBlock] at ej
  · obtain rfl : g = j := by simpa [Value.ownBlock] using ej
    exact hb

end Go.Proofs.Ythmlibapjhmdbaa
