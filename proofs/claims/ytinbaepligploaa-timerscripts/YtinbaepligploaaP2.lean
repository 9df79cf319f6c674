/- How a script of calls is read. -/
import Derived.Test.YtinbaepligploaaP1
import Derived.Test.YtinbaepligploaaR6
namespace Go.Proofs.Ytinbaepligploaa
open Go.ChangeShapes Go.WideShapes Go.ChangeAt Go.WideMaps Go.WideElems Go.RowKit Go.Joins Go.Deep

section
variable {H : Type} {enc : TypeId × Value → H} {w : World}
theorem cells32 : Try.prog.cellsOf 32 = 3 := by kernel_rfl
theorem open_op {fuel : Nat} {cs : List Value} {y : DataW H × List MemPlace} (hf : DataW.trod enc Try.prog w 0 (fun _ => true) true fuel 32 cs = some y) : ∃ o : Op3, cs = opC o := by
  obtain ⟨xs, n, _, hx, hcl, hlen, hg⟩ := DataW.trod_struct Try.underlying32 hf
  rw [cells32] at hcl
  match cs, hcl with
  | [c0, c1, c2], _ =>
    match xs, hlen with
    | [y0, y1, y2], _ =>
      have g0 := hg 0 _ rfl
      have g1 := hg 1 _ rfl
      have g2 := hg 2 _ rfl
      simp [cells3] at g0 g1 g2
      obtain ⟨z0, e0, _, _⟩ := DataW.trod_int Try.underlying3 g0
      obtain ⟨z1, e1, _, _⟩ := DataW.trod_int Try.underlying3 g1
      obtain ⟨z2, e2, _, _⟩ := DataW.trod_int Try.underlying3 g2
      simp only [List.cons.injEq, and_true] at e0 e1 e2
      subst e0 e1 e2
      exact ⟨(z0, z1, z2), rfl⟩
theorem list_of {α : Type} {Q : Nat → α → Prop} : ∀ n : Nat, (∀ i, i < n → ∃ o, Q i o) → ∃ os : List α, os.length = n ∧ ∀ i o, os[i]? = some o → Q i o
  | 0, _ => ⟨[], rfl, fun i o h => by simp at h⟩
  | n + 1, h => by
    obtain ⟨os, h1, h2⟩ := list_of n (fun i hi => h i (by omega))
    obtain ⟨o, ho⟩ := h n (by omega)
    refine ⟨os ++ [o], by simp [h1], fun i x hx => ?_⟩
    by_cases hi : i < n
    · rw [List.getElem?_append_left (by omega)] at hx
      exact h2 i x hx
    · have hlt := (List.getElem?_eq_some_iff.1 hx).1
      simp at hlt
      obtain rfl : i = n := by omega
      rw [List.getElem?_append_right (by omega), h1] at hx
      simp at hx
      subst hx
      exact ho
theorem open_script {fuel : Nat} {v : Value} {y : DataW H × List MemPlace} (hf : DataW.trod enc Try.prog w 0 (fun _ => true) true fuel 22 [v] = some y) :
    ∃ (A : Option Addr) (n cap : Nat) (os : List Op3), v = .slice A n cap ∧ Scr w A os ∧ os.length = n ∧ n ≤ maxLen := by
  rcases open_slice Try.underlying22 hf with ⟨hcs, _⟩ | ⟨a, len, cap, m, n, D, Pl, hcs, _, hl, hc, hm, _, hel⟩
  · simp only [List.cons.injEq, and_true] at hcs
    subst hcs
    exact ⟨none, 0, 0, [], rfl, .inl rfl, rfl, Nat.zero_le _⟩
  · simp only [List.cons.injEq, and_true] at hcs
    subst hcs
    simp only [if_true] at hm
    subst hm
    have each : ∀ i, i < len → ∃ o : Op3, ∀ k, k < 3 → w.cell? (a.add (i * 3 + k)) = (opC o)[k]? := by
      intro i hi
      obtain ⟨cs', h1, h2⟩ := hel i (by omega)
      rw [cells32] at h1
      obtain ⟨o, rfl⟩ := open_op h2
      refine ⟨o, fun k hk => ?_⟩
      have h3 := (World.cells?_some h1).2.2 k hk
      rw [add_add] at h3
      exact h3
    obtain ⟨os, h1, h2⟩ := list_of len each
    refine ⟨some a, len, _, os, rfl, ?_, h1, by omega⟩
    rcases Nat.eq_zero_or_pos len with e | e
    · exact .inl (List.length_eq_zero_iff.1 (by omega))
    · refine .inr ⟨a, rfl, ?_, h2⟩
      obtain ⟨o, ho⟩ := each 0 e
      have h0 := ho 0 (by omega)
      rw [show a.add (0 * 3 + 0) = a from by unfold Addr.add; simp] at h0
      rcases Nat.lt_or_ge a.block w.heap.size with h2 | h2
      · exact h2
      · rw [World.cell?, Array.getElem?_eq_none h2] at h0
        simp at h0
theorem open_scr {r : Reach} {b0 : Nat} {v : Value} {d : DataW H} {p : List MemPlace} (hv : Value.okWide Try.prog w r b0 22 v) (h : DataW.Trod enc Try.prog w 0 (fun _ => true) true 22 v d p) :
    ∃ (A : Option Addr) (n cap : Nat) (os : List Op3), v = .slice A n cap ∧ Scr w A os ∧ os.length = n ∧ n ≤ maxLen := by
  obtain ⟨a0, len, cap, rfl⟩ := okWide_slice Try.underlying22 hv
  obtain ⟨fuel, hf⟩ := h
  exact open_script hf
end
end Go.Proofs.Ytinbaepligploaa
