/- How a slice of ints is read. -/
import Derived.Test.YtinbaepligploaaP0
namespace Go.Proofs.Ytinbaepligploaa
open Go.ChangeShapes Go.WideShapes Go.ChangeAt Go.WideMaps Go.WideElems Go.RowKit Go.Joins Go.Deep

section
variable {H : Type} {enc : TypeId × Value → H} {w : World}
theorem open_nums {fuel : Nat} {v : Value} {y : DataW H × List MemPlace} (hf : DataW.trod enc Try.prog w 0 (fun _ => true) true fuel 39 [v] = some y) :
    ∃ (A : Option Addr) (n cap : Nat) (zs : List Int), v = .slice A n cap ∧ zs.length = n ∧ n ≤ cap ∧ n ≤ maxLen ∧ IntsAt w A zs := by
  rcases open_ints Try.underlying39 Try.underlying3 (by kernel_rfl) hf with ⟨hcs, hx⟩ | ⟨a, len, cap, zs, hcs, _, hl, hm, hz, hx, hcell, hwz⟩
  · simp only [List.cons.injEq, and_true] at hcs
    subst hcs
    exact ⟨none, 0, 0, [], rfl, rfl, Nat.le_refl _, Nat.zero_le _, .inl rfl⟩
  · simp only [List.cons.injEq, and_true] at hcs
    subst hcs
    simp only [if_true] at hz
    refine ⟨some a, len, cap, zs.take len, rfl, by rw [List.length_take]; omega, hl, by omega, ?_⟩
    rcases Nat.eq_zero_or_pos len with e | e
    · exact .inl (by rw [e]; rfl)
    · refine .inr ⟨a, rfl, ?_, fun j hj => ?_⟩
      · have h0 := hcell 0 (by omega)
        rw [show a.add 0 = a from by unfold Addr.add; simp] at h0
        rcases Nat.lt_or_ge a.block w.heap.size with h2 | h2
        · exact h2
        · rw [World.cell?, Array.getElem?_eq_none h2] at h0
          cases h0
      · rw [List.length_take] at hj
        rw [hcell j (by omega)]
        have e2 : (zs.take len).getD j 0 = zs.getD j 0 := by simp [List.getD, (by omega : j < len)]
        rw [e2]
theorem open_islice {r : Reach} {b0 : Nat} {v : Value} {d : DataW H} {p : List MemPlace} (hv : Value.okWide Try.prog w r b0 39 v) (h : DataW.Trod enc Try.prog w 0 (fun _ => true) true 39 v d p) :
    ∃ (A : Option Addr) (n cap : Nat) (zs : List Int), v = .slice A n cap ∧ IntsAt w A zs ∧ zs.length = n ∧ n ≤ maxLen := by
  obtain ⟨A, n, cap, rfl⟩ := okWide_slice Try.underlying39 hv
  obtain ⟨fuel, hf⟩ := h
  obtain ⟨A', n', cap', zs, e, h1, _, h3, h4⟩ := open_nums (v := .slice A n cap) hf
  cases e
  exact ⟨A, n, cap, zs, rfl, h4, h1, h3⟩
end
end Go.Proofs.Ytinbaepligploaa
