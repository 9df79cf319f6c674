/- The law on one way. -/
import Derived.Test.YtodgkjmkjahkiaaP1
namespace Go.Proofs.Ytodgkjmkjahkiaa
open Go.RowKit Go.Maps

theorem Sc.next {w w' : World} {A : Option Addr} {n : Nat} {os : List Op4} (h : Sc w A n os) (hb : Below w.heap.size w w') : Sc w' A n os := by
  refine ⟨?_, h.len, h.most⟩
  rcases h.at_ with e | ⟨ad, e, h1, h2⟩
  · exact .inl e
  · refine .inr ⟨ad, e, Nat.lt_of_lt_of_le h1 hb.size, fun i hi => ?_⟩
    have q := h2 i hi
    have hB : (ad.add (i * 4)).block < w.heap.size := by rw [block_add]; exact h1
    exact ⟨(hb.cell (p := ad.add (i * 4)) hB).trans q.c0, (hb.cell (p := ⟨(ad.add (i * 4)).block, (ad.add (i * 4)).off + 1, none⟩) hB).trans q.c1, (hb.cell (p := ⟨(ad.add (i * 4)).block, (ad.add (i * 4)).off + 2, none⟩) hB).trans q.c2, (hb.cell (p := ⟨(ad.add (i * 4)).block, (ad.add (i * 4)).off + 3, none⟩) hB).trans q.c3⟩
theorem Sc.at' {w : World} {A : Option Addr} {n : Nat} {os : List Op4} (h : Sc w A n os) {i : Nat} (hi : i < n) : ∃ ad, A = some ad ∧ ad.block < w.heap.size ∧ OpAt w (ad.add (i * 4)) (opA os i) := by
  have hl := h.len
  rcases h.at_ with rfl | ⟨ad, e, h1, h2⟩
  · simp at hl; omega
  · exact ⟨ad, e, h1, h2 i (by omega)⟩
/-- A state can be left for that one. -/
def wayB (last s : Int) : Bool := s == last || last == 0 || (last == 1 && s == 3)
/-- Who has voted yes is written down. -/
def YesOK (T : Tv) (f : Nat → Bool) : Prop := T.vs.length = T.ns.length ∧ ∀ i, i < T.ns.length → T.vs.getD i 0 = 1 → ∀ j : Nat, T.ns.getD i 0 = j → f j = true
theorem st_range (T : Tv) : T.st = 0 ∨ T.st = 1 ∨ T.st = 2 ∨ T.st = 3 := by
  unfold Tv.st
  split
  · simp
  · split
    · simp
    · split <;> simp
/-- In a tally that goes, or is over, each has voted yes. -/
theorem go_yes {T : Tv} (hl : T.vs.length = T.ns.length) (hv : ∀ i, i < T.ns.length → T.vs.getD i 0 = 0 ∨ T.vs.getD i 0 = 1 ∨ T.vs.getD i 0 = 2) (h : T.st = 1 ∨ T.st = 3) : ∀ i, i < T.ns.length → T.vs.getD i 0 = 1 := by
  intro i hi
  unfold Tv.st at h
  have h2 : hasB T.vs 2 = false := by
    cases e : hasB T.vs 2 with
    | false => rfl
    | true => rw [e] at h; simp at h
  rw [h2] at h
  have h0 : hasB T.vs 0 = false := by
    cases e : hasB T.vs 0 with
    | false => rfl
    | true => rw [e] at h; simp at h
  have n2 : T.vs.getD i 0 ≠ 2 := fun e => by rw [hasB_at.2 ⟨i, by omega, e⟩] at h2; cases h2
  have n0 : T.vs.getD i 0 ≠ 0 := fun e => by rw [hasB_at.2 ⟨i, by omega, e⟩] at h0; cases h0
  have := hv i hi
  omega
/-- A tally's numbers. -/
structure TOk (T : Tv) : Prop where
  ns : okN T.ns = true
  lv : T.vs.length = T.ns.length
  lc : T.cs.length = T.ns.length
  vv : ∀ i, i < T.ns.length → T.vs.getD i 0 = 0 ∨ T.vs.getD i 0 = 1 ∨ T.vs.getD i 0 = 2
theorem TOk.new {zs : List Int} {n : Nat} (h : okN zs = true) (hn : zs.length = n) : TOk ⟨zs, List.replicate n 0, List.replicate n (-1)⟩ := by
  refine ⟨h, by simp [hn], by simp [hn], fun i hi => .inl ?_⟩
  simp only at hi
  simp [List.getD, (by omega : i < n)]
theorem voteT_cases (T : Tv) (n : Int) (y : Bool) : voteT T n y = T ∨ ∃ i, ixN T.ns n = some i ∧ voteE T n y = 0 ∧ T.st = 0 ∧ T.vs.getD i 0 = 0 ∧ voteT T n y = { T with vs := T.vs.set i (vI y) } := by
  unfold voteT voteE
  cases hx : ixN T.ns n with
  | none => exact .inl rfl
  | some i =>
    simp only
    by_cases h1 : T.vs.getD i 0 = vI y
    · rw [if_pos h1]; exact .inl rfl
    · rw [if_neg h1, if_neg h1]
      by_cases h2 : T.vs.getD i 0 ≠ 0 ∨ T.st ≠ 0
      · rw [if_pos h2]; exact .inl rfl
      · rw [if_neg h2, if_neg h2]
        refine .inr ⟨i, rfl, rfl, ?_, ?_, rfl⟩
        · exact Classical.byContradiction fun h => h2 (.inr h)
        · exact Classical.byContradiction fun h => h2 (.inl h)
theorem exitT_cases (T : Tv) (n c : Int) : exitT T n c = T ∨ ∃ i, ixN T.ns n = some i ∧ exitE T n c = 0 ∧ T.st = 1 ∧ T.cs.getD i 0 = -1 ∧ 0 ≤ c ∧ c ≤ 255 ∧ exitT T n c = { T with cs := T.cs.set i c } := by
  unfold exitT exitE
  cases hx : ixN T.ns n with
  | none => exact .inl rfl
  | some i =>
    simp only
    by_cases h0 : c < 0 ∨ c > 255
    · rw [if_pos h0]; exact .inl rfl
    · rw [if_neg h0, if_neg h0]
      by_cases h1 : T.cs.getD i 0 = c
      · rw [if_pos h1]; exact .inl rfl
      · rw [if_neg h1, if_neg h1]
        by_cases h2 : T.cs.getD i 0 ≠ -1 ∨ T.st ≠ 1
        · rw [if_pos h2]; exact .inl rfl
        · rw [if_neg h2, if_neg h2]
          refine .inr ⟨i, rfl, rfl, ?_, ?_, by omega, by omega, rfl⟩
          · exact Classical.byContradiction fun h => h2 (.inr h)
          · exact Classical.byContradiction fun h => h2 (.inl h)
theorem TOk.vote {T : Tv} (h : TOk T) (n : Int) (y : Bool) : TOk (voteT T n y) := by
  rcases voteT_cases T n y with e | ⟨i, hx, _, _, _, e⟩
  · rw [e]; exact h
  · rw [e]
    have hi := (ixN_some hx).1
    refine ⟨h.ns, by simpa using h.lv, h.lc, fun j hj => ?_⟩
    show (T.vs.set i (vI y)).getD j 0 = 0 ∨ (T.vs.set i (vI y)).getD j 0 = 1 ∨ (T.vs.set i (vI y)).getD j 0 = 2
    by_cases q : j = i
    · subst q
      rw [set_same (by rw [h.lv]; exact hi)]
      cases y <;> simp [vI]
    · rw [set_other q]; exact h.vv j hj
theorem TOk.exit {T : Tv} (h : TOk T) (n c : Int) : TOk (exitT T n c) := by
  rcases exitT_cases T n c with e | ⟨i, _, _, _, _, _, _, e⟩
  · rw [e]; exact h
  · rw [e]; exact ⟨h.ns, h.lv, by simpa using h.lc, h.vv⟩
theorem hasB_set_ne {l : List Int} {i : Nat} {v x : Int} (hv : v ≠ x) (h : hasB l x = false) : hasB (l.set i v) x = false := by
  rw [← Bool.not_eq_true, hasB_iff] at h ⊢
  intro hm
  rcases List.mem_or_eq_of_mem_set hm with q | q
  · exact h q
  · exact hv q.symm
theorem hasB_set_in {l : List Int} {i : Nat} {v x : Int} (hi : l.getD i 0 ≠ x) (h : hasB l x = true) : hasB (l.set i v) x = true := by
  rw [hasB_at] at h ⊢
  obtain ⟨j, hj, e⟩ := h
  have hne : j ≠ i := by rintro rfl; exact hi e
  exact ⟨j, by simpa using hj, by rw [set_other hne]; exact e⟩
/-- A vote leaves a state in the one way. -/
theorem way_vote {T : Tv} (_ : TOk T) (n : Int) (y : Bool) : wayB T.st (voteT T n y).st = true := by
  rcases voteT_cases T n y with e | ⟨i, _, _, hs, _, _⟩
  · rw [e]; unfold wayB; simp
  · unfold wayB; rw [hs]; simp
theorem way_exit {T : Tv} (_ : TOk T) (n c : Int) : wayB T.st (exitT T n c).st = true := by
  rcases exitT_cases T n c with e | ⟨i, _, _, hs, h1, h2, h3, e⟩
  · rw [e]; unfold wayB; simp
  · have hst := hs
    unfold Tv.st at hst
    have a2 : hasB T.vs 2 = false := by
      cases q : hasB T.vs 2 with
      | false => rfl
      | true => rw [q] at hst; simp at hst
    rw [a2] at hst
    have a0 : hasB T.vs 0 = false := by
      cases q : hasB T.vs 0 with
      | false => rfl
      | true => rw [q] at hst; simp at hst
    have : (exitT T n c).st = 1 ∨ (exitT T n c).st = 3 := by
      rw [e]
      unfold Tv.st
      simp only [a2, a0]
      cases hasB (T.cs.set i c) (-1) <;> simp
    unfold wayB
    rw [hs]
    rcases this with q | q <;> rw [q] <;> rfl
theorem way_refused {T T' : Tv} (h : wayB T.st T'.st = true) : (T'.st == T.st) = true ∨ (T.st = 0) ∨ (T.st = 1 ∧ T'.st = 3) := by
  unfold wayB at h
  simp only [Bool.or_eq_true, Bool.and_eq_true, beq_iff_eq] at h
  rcases h with (h | h) | h
  · exact .inl (by simpa using h)
  · exact .inr (.inl h)
  · exact .inr (.inr h)
end Go.Proofs.Ytodgkjmkjahkiaa
