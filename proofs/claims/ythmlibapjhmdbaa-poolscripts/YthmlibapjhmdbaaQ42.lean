/- A call on both pools, of any call of a script. -/
import Derived.Test.YthmlibapjhmdbaaQ41
namespace Go.Proofs.Ythmlibapjhmdbaa
open Go.RowKit Go.Shelf Go.Maps

theorem u64_of_wf {n : Int} (h : (Lit.int .u64 n).wf = true) : ∃ m : Nat, n = m ∧ m < 2 ^ 64 := by
  have h2 : IntKind.u64.min ≤ n ∧ n ≤ IntKind.u64.max := by simpa [Lit.wf] using h
  have h3 : IntKind.u64.min = 0 := by decide
  have h4 : IntKind.u64.max = 18446744073709551615 := by decide
  rw [h3, h4] at h2
  obtain ⟨m, rfl⟩ := Int.eq_ofNat_of_zero_le h2.1
  exact ⟨m, rfl, by have := h2.2; omega⟩
theorem W4_of {a b c e : Nat} (ha : a < 2 ^ 64) (hb : b < 2 ^ 64) (hc : c < 2 ^ 64) (he : e < 2 ^ 64) : Mk.W4 [a, b, c, e] := by
  refine ⟨rfl, fun i => ?_⟩
  match i with
  | 0 => exact ha
  | 1 => exact hb
  | 2 => exact hc
  | 3 => exact he
  | i + 4 => rw [Mk.nth_getElem?, List.getElem?_eq_none (by simp)]; exact Nat.two_pow_pos 64
section
variable {w V : World} {p b k s q r nb : Nat} {g : Int → Option Sh} {L : List Int} {va vb : Value} {Ow Dn : List Int}
theorem does_any (h : Two w V p b k s q g L r nb va vb Ow Dn) (ha : Agr (s * q) g Ow Dn) (hL : LOk s q) (hk : k ≤ 900) (hd : nb ≤ 900) (o : Oq) (hn : (Lit.int .i64 o.n).wf = true) (h8 : W8 o) :
    Calls Try.prog 12 #[.pointer (some ⟨p, 0, none⟩), .pointer (some ⟨r, 0, none⟩), .agg #[.int .i64 o.d, .int .i64 o.n, .int .u64 o.f0, .int .u64 o.f1, .int .u64 o.f2, .int .u64 o.f3, .int .i64 o.r, .int .i64 o.pe, .int .i64 o.ds, .int .u64 o.m0, .int .u64 o.m1, .int .u64 o.m2, .int .u64 o.m3]] V (Dos w V p b k s q g r nb va vb o.n o.d) := by
  obtain ⟨od, on, f0, f1, f2, f3, rr, pe, ds, m0, m1, m2, m3⟩ := o
  obtain ⟨g0, g1, g2, g3, g4, g5, g6, g7⟩ := h8
  dsimp only at g0 g1 g2 g3 g4 g5 g6 g7 hn ⊢
  obtain ⟨f0, rfl, _⟩ := u64_of_wf g0
  obtain ⟨f1, rfl, _⟩ := u64_of_wf g1
  obtain ⟨f2, rfl, _⟩ := u64_of_wf g2
  obtain ⟨f3, rfl, _⟩ := u64_of_wf g3
  obtain ⟨m0, rfl, b0⟩ := u64_of_wf g4
  obtain ⟨m1, rfl, b1⟩ := u64_of_wf g5
  obtain ⟨m2, rfl, b2⟩ := u64_of_wf g6
  obtain ⟨m3, rfl, b3⟩ := u64_of_wf g7
  have hw := W4_of b0 b1 b2 b3
  by_cases e0 : od = 0
  · subst e0
    exact does_reserve h ha hL hk hn f0 f1 f2 f3 m0 m1 m2 m3 rr pe ds
  by_cases e1 : od = 1
  · subst e1
    exact does_take h ha hL hk hd hn f0 f1 f2 f3 m0 m1 m2 m3 rr pe ds hw
  by_cases e2 : od = 2
  · subst e2
    exact does_commit h ha hL hk hd hn f0 f1 f2 f3 m0 m1 m2 m3 rr pe ds
  by_cases e3 : od = 3
  · subst e3
    exact does_release h ha hL hd hn f0 f1 f2 f3 m0 m1 m2 m3 rr pe ds
  · exact does_other h ha hL hn f0 f1 f2 f3 m0 m1 m2 m3 rr pe ds od e0 e1 e2 e3
end
end Go.Proofs.Ythmlibapjhmdbaa
