/- How a layout is read. -/
import Derived.Test.YthmlibapjhmdbaaGQ21xQ22xQ39
namespace Go.Proofs.Ythmlibapjhmdbaa
open Go.ChangeShapes Go.WideShapes Go.ChangeAt Go.WideMaps Go.WideElems Go.RowKit Go.Joins Go.Deep

section
variable {H : Type} {enc : TypeId × Value → H} {w : World}
set_option maxRecDepth 100000 in
theorem open_lay {r : Reach} {b0 : Nat} {v : Value} {d : DataW H} {p : List MemPlace} (hv : Value.okWide Try.prog w r b0 23 v) (h : DataW.Trod enc Try.prog w 0 (fun _ => true) true 23 v d p) : ∃ s q : Int, v = .agg #[.int .i64 s, .int .i64 q] := by
  obtain ⟨v0, v1, y0, y1, n, rfl, rfl, rfl, h0, h1⟩ := open_agg2 Try.underlying23 (by kernel_rfl) (by kernel_rfl) hv h
  obtain ⟨s, e0, rfl, ws⟩ := DataW.trod_int Try.underlying3 h0
  obtain ⟨q, e1, rfl, wq⟩ := DataW.trod_int Try.underlying3 h1
  simp only [List.cons.injEq, and_true] at e0 e1
  subst e0
  subst e1
  exact ⟨s, q, rfl⟩
end
end Go.Proofs.Ythmlibapjhmdbaa
