/- How a script that was handed in is read. -/
import Derived.Test.YtiokpflciagdoaaP0
namespace Go.Proofs.Ytiokpflciagdoaa
open Go.ChangeShapes Go.WideShapes Go.ChangeAt Go.WideMaps Go.WideElems Go.RowKit Go.Joins Go.Deep

theorem open_scr {H : Type} {enc : TypeId × Value → H} {w : World} {r : Reach} {b0 : Nat} {v : Value} {d : DataW H} {p : List MemPlace} (hv : Value.okWide Try.prog w r b0 22 v) (h : DataW.Trod enc Try.prog w 0 (fun _ => true) true 22 v d p) :
    ∃ (A : Option Addr) (n cap : Nat) (os : List OpR), v = .slice A n cap ∧ os.length = n ∧ n ≤ cap ∧ n ≤ maxLen ∧ ScriptAt w A os := by
  obtain ⟨a0, len, cap, rfl⟩ := okWide_slice Try.underlying22 hv
  obtain ⟨fuel, hf⟩ := h
  exact open_script hf
end Go.Proofs.Ytiokpflciagdoaa
