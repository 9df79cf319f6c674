/- A table: Spawn whole. -/
import Derived.Test.YtjolkcomlindhaaG14
namespace Go.Proofs.Ytjolkcomlindhaa
open Go.RowKit Go.Shelf Go.Maps Go.Sort

/-- Spawn of a task with any cores. -/
theorem spawn_any {w : World} {p k : Nat} {m : Option Nat} {N : Int} {T : List Pr} (h : TbAt w p m k N T) (hk : k < 1000) (hN : N < 200) (hT : T.length < 256) (p0 j e s r st c : Int) (A : Option Addr) (n cap : Nat) (zs : List Int) (hz : IntsAt w A zs) (hn : zs.length = n) (hA : ∀ ad, A = some ad → ad.block ≠ p) (hl : n ≤ 1000) :
    Calls Try.prog 37 #[.pointer (some ⟨p, 0, none⟩), tkV p0 j e s r (.slice A n cap) st c] w fun x w' =>
      (mayT j e s r (cE zs) n = false ∧ x = .returned (.tuple #[.int .i64 0, .int .i64 1]) ∧ Below w.heap.size w w') ∨
      (mayT j e s r (cE zs) n = true ∧ ∃ A' cap' b' m', x = .returned (.tuple #[.int .i64 (N + 1), .int .i64 0]) ∧ TbAt w' p m' (k + 1) (N + 1) (T ++ [⟨N + 1, j, e, s, r, 0, 0, 0, A', cap', zs, b'⟩]) ∧ Tt w w' p m T ∧ Fresh w m m' ∧ w.heap.size ≤ b') := by
  have hO := of_says (cap := cap) hz hn hl
  cases q : mayT j e s r (cE zs) n
  · refine (spawn_no h p0 j e s r st c (cE zs) A n cap hO hl q).mono ?_
    rintro x w' ⟨rfl, hb⟩
    exact .inl ⟨rfl, rfl, hb⟩
  · have e0 : cE zs = 0 := by
      unfold mayT at q
      simp only [Bool.and_eq_true, beq_iff_eq] at q
      exact q.1.2
    rw [e0] at hO q
    cases m with
    | none =>
      refine (spawn_none h hk hN hT p0 j e s r st c A n cap zs hz hn hA hO hl q).mono ?_
      rintro x w' ⟨A', cap', b', b, rfl, h1, h2, h3, h4⟩
      exact .inr ⟨rfl, A', cap', b', some b, rfl, h1, h2, .inr ⟨rfl, b, rfl, h4⟩, h3⟩
    | some b =>
      refine (spawn_some h hk hN hT p0 j e s r st c A n cap zs hz hn hA hO hl q).mono ?_
      rintro x w' ⟨A', cap', b', rfl, h1, h2, h3⟩
      exact .inr ⟨rfl, A', cap', b', some b, rfl, h1, h2, .inl rfl, h3⟩
end Go.Proofs.Ytjolkcomlindhaa
