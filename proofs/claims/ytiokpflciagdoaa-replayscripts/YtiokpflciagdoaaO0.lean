/- Plain facts for ReplayOnce. -/
import Derived.Test.YtiokpflciagdoaaB0
namespace Go.Proofs.Ytiokpflciagdoaa
open Go.RowKit Go.Maps

/-- What is kept, and not over, is never dropped. -/
theorem once_stays {P : Pl} {U nw t most : Int} {L : List (Pl × Int)} (hI : nw < U → (P, U) ∈ L) (hge : nw ≤ t) (ok : Bool) (T : List (Jb × Int)) (x : Pl) (u : Int) (ht : t < U) : (P, U) ∈ (useOf ok most L T x u t).2 := by
  have hm := hI (by omega)
  rcases useOf_cases ok most L T x u t with ⟨e, _⟩ | ⟨e, _⟩ | ⟨e, _⟩
  · rw [e]; exact hm
  · rw [e]; exact keep_mem.2 ⟨hm, ht⟩
  · rw [e]; exact List.mem_append.2 (.inl (keep_mem.2 ⟨hm, ht⟩))
theorem once_other {P : Pl} {U nw t most : Int} {L : List (Pl × Int)} (hI : nw < U → (P, U) ∈ L) (hge : nw ≤ t) {ok : Bool} {T : List (Jb × Int)} {x : Pl} {u : Int} (h0 : (useOf ok most L T x u t).1 = 0) (ht : t < U) : x ≠ P := by
  have hm := hI (by omega)
  rcases useOf_cases ok most L T x u t with ⟨_, e⟩ | ⟨_, e, _⟩ | ⟨_, _, _, hh, _⟩
  · exact absurd h0 e
  · exact absurd h0 e
  · rintro rfl
    have : hasL (keep t L) x = true := hasL_iff.2 ⟨U, keep_mem.2 ⟨hm, ht⟩⟩
    rw [this] at hh
    cases hh
theorem used_mem {P : Pl} {U t : Int} {L : List (Pl × Int)} (hL : Apart L) (hm : (P, U) ∈ L) (ht : t < U) : usedB L P t = true := by
  unfold usedB
  rw [getL_of_mem hL hm, hasL_iff.2 ⟨U, hm⟩]
  have h' : ¬ U ≤ t := by omega
  simp [h']
theorem pl_ne {x P : Pl} (h : x ≠ P) : x.j ≠ P.j ∨ x.j = P.j ∧ x.e ≠ P.e ∨ x.j = P.j ∧ x.e = P.e ∧ x.s ≠ P.s := by
  by_cases h1 : x.j = P.j
  · by_cases h2 : x.e = P.e
    · exact .inr (.inr ⟨h1, h2, fun h3 => h (Pl.ext' h1 h2 h3)⟩)
    · exact .inr (.inl ⟨h1, h2⟩)
  · exact .inl h1
/-- The first one's place is kept. -/
theorem once_first {ok : Bool} {most u now : Int} {x : Pl} (h : (useOf ok most [] [] x u now).1 = 0) : useOf ok most [] [] x u now = (0, [(x, u)]) := by
  rcases useOf_cases ok most [] [] x u now with ⟨_, e⟩ | ⟨_, e, _⟩ | ⟨e, _⟩
  · exact absurd h e
  · exact absurd h e
  · rw [e]
    rfl
/-- What the law's test says of two places: whether both are one, and the first one lasts. -/
def sameB (x P : Pl) (r t U : Int) : Prop := r ≠ 0 ∨ r = 0 ∧ (x.j ≠ P.j ∨ x.j = P.j ∧ x.e ≠ P.e ∨ x.j = P.j ∧ x.e = P.e ∧ x.s ≠ P.s ∨ x.j = P.j ∧ x.e = P.e ∧ x.s = P.s ∧ ¬ t < U)
theorem same_or {P : Pl} {U nw t most : Int} {L : List (Pl × Int)} (hI : nw < U → (P, U) ∈ L) (hge : nw ≤ t) (ok : Bool) (T : List (Jb × Int)) (x : Pl) (u : Int) : sameB x P (useOf ok most L T x u t).1 t U := by
  unfold sameB
  by_cases h0 : (useOf ok most L T x u t).1 = 0
  · right
    refine ⟨h0, ?_⟩
    by_cases ht : t < U
    · rcases pl_ne (once_other hI hge h0 ht) with h | h | h
      · exact .inl h
      · exact .inr (.inl h)
      · exact .inr (.inr (.inl h))
    · by_cases hx : x = P
      · subst hx
        exact .inr (.inr (.inr ⟨rfl, rfl, rfl, ht⟩))
      · rcases pl_ne hx with h | h | h
        · exact .inl h
        · exact .inr (.inl h)
        · exact .inr (.inr (.inl h))
  · exact .inl h0
theorem OpCells.more {w : World} {E : Addr} {o : OpR} (h : OpCells w E o) : w.cell? ⟨E.block, E.off + 2, none⟩ = some (.int .i64 o.c.e) ∧ w.cell? ⟨E.block, E.off + 3, none⟩ = some (.int .i64 o.c.s) ∧ w.cell? ⟨E.block, E.off + 4, none⟩ = some (.int .i64 o.c.f) ∧ w.cell? ⟨E.block, E.off + 5, none⟩ = some (.int .i64 o.c.u) ∧ w.cell? ⟨E.block, E.off + 6, none⟩ = some (.slice o.c.A o.c.n o.c.cap) ∧ w.cell? ⟨E.block, E.off + 7, none⟩ = some (.int .i64 o.c.c) :=
  ⟨h.e2, h.e3, h.e4, h.e5, h.e6, h.e7⟩
end Go.Proofs.Ytiokpflciagdoaa
