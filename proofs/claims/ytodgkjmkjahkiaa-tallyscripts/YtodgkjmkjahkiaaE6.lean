/- The law on runs: facts. -/
import Derived.Test.YtodgkjmkjahkiaaE5
namespace Go.Proofs.Ytodgkjmkjahkiaa
open Go.RowKit

theorem fails_of {e : Ed} {F : List Int} (h1 : codeA F e.s ≠ -1) (h2 : failsB e F = false) : holdsB e F = true := by
  unfold failsB at h2
  have h3 : (codeA F e.s == -1) = false := by simpa using h1
  rw [h3] at h2
  simpa using h2
/-- The first place of an order that is open is ready. -/
theorem first_ready {l : List St} {cs : List Int} (hk : ckB l cs = 0) : ∀ n i : Nat, i < n → ∀ x : Int, (placesB l)[i]? = some x → codeA (settleB l cs) x = -1 → ∃ j, j < l.length ∧ rdB l (settleB l cs) j = true := by
  intro n
  induction n with
  | zero => intro i hi; omega
  | succ n ih =>
    intro i hi x hx hc
    obtain ⟨h1, h2, h3⟩ := Good.places l i x hx
    obtain ⟨q, rfl⟩ : ∃ q : Nat, x = q := ⟨x.toNat, by omega⟩
    have hno : ¬ anyF l (settleB l cs) q := by
      rcases settled_at hk (i := q) (by omega) with ⟨h4, e⟩ | ⟨_, _, h4⟩ | ⟨_, e, _⟩
      · exact absurd (e.symm.trans hc) h4
      · exact h4
      · rw [code_nat, e] at hc; exact absurd hc (by decide)
    by_cases hall : ∀ e, e ∈ (stA l q).es → codeA (settleB l cs) e.s ≠ -1
    · refine ⟨q, by omega, rd_iff.2 ⟨hc, fun e he => fails_of (hall e he) ?_⟩⟩
      cases hf : failsB e (settleB l cs) with
      | false => rfl
      | true => exact absurd ⟨e, he, hf⟩ hno
    · simp only [Classical.not_forall, Decidable.not_not] at hall
      obtain ⟨e, he, hce⟩ := hall
      obtain ⟨j, hj, hje⟩ := List.mem_take_iff_getElem.1 (h3 e he)
      exact ih j (by omega) e.s (by rw [← hje]; exact List.getElem?_eq_getElem _) hce
theorem runs_over {l : List St} {cs : List Int} (hk : ckB l cs = 0) : ovY l cs = ((readyB l (settleB l cs)).length == 0) := by
  have h0 := ck_ok hk
  have hov : ovY l cs = !hasB (settleB l cs) (-1) := by unfold ovY; rw [hk]; rfl
  rw [hov]
  cases hb : hasB (settleB l cs) (-1)
  · symm
    show ((readyB l (settleB l cs)).length == 0) = true
    rw [beq_iff_eq]
    rcases hr : readyB l (settleB l cs) with _ | ⟨x, r⟩
    · rfl
    · have hx : hasB (readyB l (settleB l cs)) x = true := by rw [hr, hasB_iff]; simp
      obtain ⟨i, h1, h2, _⟩ := mem_ready.1 hx
      have h3 := (rd_iff.1 h2).1
      have hm : (-1 : Int) ∈ settleB l cs := by
        rw [← h3, List.getD_eq_getElem?_getD, List.getElem?_eq_getElem (by rw [settled_len, h0.2.1]; exact h1)]
        exact List.getElem_mem _
      rw [hasB_iff.2 hm] at hb
      cases hb
  · symm
    show ((readyB l (settleB l cs)).length == 0) = false
    rw [beq_eq_false_iff_ne]
    intro hl
    rw [hasB_iff] at hb
    obtain ⟨i, hi, he⟩ := List.getElem_of_mem hb
    have hil : i < l.length := by rw [settled_len, h0.2.1] at hi; exact hi
    have hm := (Good.places l).all (check_ok h0.1).2 hil
    obtain ⟨p, hp, hpe⟩ := List.getElem_of_mem hm
    obtain ⟨j, h1, h2⟩ := first_ready hk (p + 1) p (by omega) i (by rw [← hpe]; exact List.getElem?_eq_getElem hp) (by rw [code_nat, List.getD_eq_getElem?_getD, List.getElem?_eq_getElem hi, he]; rfl)
    have hx := mem_ready.2 ⟨j, h1, h2, rfl⟩
    rw [hasB_iff, List.length_eq_zero_iff.1 hl] at hx
    cases hx
def opens (cs : List Int) (n : Nat) : Nat := cntR (fun i => cs.getD i 0 == -1) n
/-- What the first ready place is. -/
theorem first_of {l : List St} {cs : List Int} {v : Int} (hk : ckB l cs = 0) (h : (readyB l (settleB l cs)).length ≠ 0) (h0 : 0 ≤ v) (h1 : v ≤ 255) :
    ∃ q : Nat, (readyB l (settleB l cs)).getD 0 0 = q ∧ q < l.length ∧ (∀ k, k < (stA l q).es.length → ∃ j : Nat, (edA (stA l q).es k).s = j ∧ j < l.length ∧ ((settleB l cs).getD j 0 == -1) = false) ∧ ckB l ((settleB l cs).set q v) = 0 ∧ opens ((settleB l cs).set q v) l.length < opens cs l.length := by
  have hx := ready_at (l := l) (cs := settleB l cs) (i := 0) (by omega)
  obtain ⟨q, h2, h3, h4⟩ := mem_ready.1 hx
  have hc0 := ck_ok hk
  have hFl : (settleB l cs).length = l.length := settled_len.trans hc0.2.1
  refine ⟨q, h4, h2, fun k hkl => ?_, later_ck (settled_ck hk) (by rw [hFl]; exact h2) (by omega) (by omega), ?_⟩
  · obtain ⟨j, hj, hjl⟩ := may_edge (check_ok hc0.1).1 h2 hkl
    refine ⟨j, hj, hjl, ?_⟩
    have := holds_open ((rd_iff.1 h3).2 _ (edA_mem hkl))
    rw [hj, code_nat] at this
    simpa using this
  · have hq := (rd_iff.1 h3).1
    refine Nat.lt_of_lt_of_le (cntR_lt (g := fun i => (settleB l cs).getD i 0 == -1) (j := q) (fun i hi hf => ?_) h2 (by simpa using hq) ?_) (cntR_mono fun i hi hf => ?_)
    · simp only [beq_iff_eq] at hf ⊢
      by_cases e : i = q
      · subst e; exact hq
      · rwa [set_other e] at hf
    · rw [beq_eq_false_iff_ne, set_same (by rw [hFl]; exact h2)]
      omega
    · simp only [beq_iff_eq] at hf ⊢
      rcases settled_at hk (i := i) hi with ⟨h5, e⟩ | ⟨h5, _⟩ | ⟨h5, _⟩
      · exact absurd (e.symm.trans hf) h5
      · exact h5
      · exact h5
theorem rep_ck {l : List St} {n : Nat} (h : checkB l = 0) (hn : l.length = n) : ckB l (List.replicate n (-1)) = 0 := by
  refine ck_mk h (by simp [hn]) fun i hi => ?_
  have : (List.replicate n (-1 : Int)).getD i 0 = -1 := by simp at hi; simp [List.getD, hi]
  rw [this]
  omega
theorem opens_le {cs : List Int} {n : Nat} : opens cs n ≤ n := cntR_le
end Go.Proofs.Ytodgkjmkjahkiaa
