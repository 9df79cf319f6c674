/- How a call of a script is read: its cells. -/
import Derived.Test.YtjolkcomlindhaaP0
namespace Go.Proofs.Ytjolkcomlindhaa
open Go.ChangeShapes Go.WideShapes Go.ChangeAt Go.WideMaps Go.WideElems Go.RowKit Go.Joins Go.Deep

section
variable {H : Type} {enc : TypeId × Value → H} {w : World}
theorem cells63 : Try.prog.cellsOf 63 = 11 := by kernel_rfl
set_option maxRecDepth 100000 in
theorem open_opv {r : Reach} {b0 : Nat} {v : Value} {d : DataW H} {p : List MemPlace} (hv : Value.okWide Try.prog w r b0 63 v) (h : DataW.Trod enc Try.prog w 0 (fun _ => true) true 63 v d p) :
    ∃ c0 c1 c2 c3 c4 c5 c6 c7 c8 c9 c10 : Value, v = .agg #[c0, c1, c2, c3, c4, c5, c6, c7, c8, c9, c10] := by
  obtain ⟨cs, rfl, hsz⟩ := okWide_struct Try.underlying63 hv
  obtain ⟨cs⟩ := cs
  obtain ⟨fuel, hf⟩ := h
  have hf' : DataW.trod enc Try.prog w 0 (fun _ => true) true fuel 63 cs = some (d, p) := hf
  obtain ⟨xs, n, _, hx, hcl, hlen, hg⟩ := DataW.trod_struct Try.underlying63 hf'
  clear hf hf' hg hlen hx hsz hv
  rw [cells63] at hcl
  match cs, hcl with
  | [c0, c1, c2, c3, c4, c5, c6, c7, c8, c9, c10], _ => exact ⟨_, _, _, _, _, _, _, _, _, _, _, rfl⟩
end
end Go.Proofs.Ytjolkcomlindhaa
