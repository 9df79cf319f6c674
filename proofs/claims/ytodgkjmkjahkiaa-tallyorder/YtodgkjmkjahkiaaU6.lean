/- The law on orders of votes: facts. -/
import Derived.Test.YtodgkjmkjahkiaaU3
namespace Go.Proofs.Ytodgkjmkjahkiaa
open Go.RowKit Go.Maps

/-- Votes yes of these places, or none: what a tally with just these is. -/
structure Vot (zs : List Int) (T : Tv) (P : Nat → Prop) : Prop where
  ok : TOk T
  ns : T.ns = zs
  yes : ∀ i, i < zs.length → P i → T.vs.getD i 0 = 1
  no : ∀ i, i < zs.length → ¬ P i → T.vs.getD i 0 = 0
  cs : ∀ i, i < zs.length → T.cs.getD i 0 = -1
theorem ixN_at {zs : List Int} (h : zs.Nodup) {i : Nat} (hi : i < zs.length) : ixN zs (zs.getD i 0) = some i := by
  unfold ixN
  refine leastR_some hi (by simp) fun j hj => ?_
  rw [beq_eq_false_iff_ne]
  intro e
  have hz : zs[j]'(by omega) = zs[i] := by
    rw [List.getD_eq_getElem?_getD, List.getD_eq_getElem?_getD, List.getElem?_eq_getElem (by omega), List.getElem?_eq_getElem hi] at e
    exact e
  rw [List.nodup_iff_pairwise_ne, List.pairwise_iff_getElem] at h
  exact h j i (by omega) hi hj hz
theorem hasB_no {l : List Int} {x : Int} {n : Nat} (hl : l.length = n) (h : ∀ i, i < n → l.getD i 0 ≠ x) : hasB l x = false := by
  rw [← Bool.not_eq_true, hasB_at]
  rintro ⟨i, hi, e⟩
  exact h i (by omega) e
/-- Not all have voted: it is open. -/
theorem Vot.open_ {zs : List Int} {T : Tv} {P : Nat → Prop} (h : Vot zs T P) {i : Nat} (hi : i < zs.length) (hP : ¬ P i) : T.st = 0 := by
  unfold Tv.st
  have h2 : hasB T.vs 2 = false := hasB_no (n := zs.length) (by rw [h.ok.lv, h.ns]) fun j hj e => by
    by_cases q : P j
    · rw [h.yes j hj q] at e; omega
    · rw [h.no j hj q] at e; omega
  have h0 : hasB T.vs 0 = true := hasB_at.2 ⟨i, by rw [h.ok.lv, h.ns]; exact hi, h.no i hi hP⟩
  rw [h2, h0]
  rfl
/-- One more votes yes. -/
theorem Vot.vote {zs : List Int} {T : Tv} {P Q : Nat → Prop} (h : Vot zs T P) {i : Nat} (hi : i < zs.length) (hP : ¬ P i) (hQ : ∀ j, Q j ↔ P j ∨ j = i) : voteE T (zs.getD i 0) true = 0 ∧ Vot zs (voteT T (zs.getD i 0) true) Q := by
  have hnd := okN_nodup h.ok.ns
  rw [h.ns] at hnd
  have hx : ixN T.ns (zs.getD i 0) = some i := by rw [h.ns]; exact ixN_at hnd hi
  have hst := h.open_ hi hP
  have hv := h.no i hi hP
  have hne : T.vs.getD i 0 ≠ vI true := by rw [hv]; simp [vI]
  have hno : ¬ (T.vs.getD i 0 ≠ 0 ∨ T.st ≠ 0) := by rintro (q | q) <;> contradiction
  have eT : voteT T (zs.getD i 0) true = { T with vs := T.vs.set i (vI true) } := by
    unfold voteT; rw [hx]; simp only; rw [if_neg hne, if_neg hno]
  refine ⟨by unfold voteE; rw [hx]; simp only; rw [if_neg hne, if_neg hno], h.ok.vote _ _, ?_, fun j hj hq => ?_, fun j hj hq => ?_, ?_⟩
  · rw [eT]; exact h.ns
  · rw [eT]
    show (T.vs.set i (vI true)).getD j 0 = 1
    by_cases e : j = i
    · subst e; rw [set_same (by rw [h.ok.lv, h.ns]; exact hi)]; rfl
    · rw [set_other e]
      rcases (hQ j).1 hq with q | q
      · exact h.yes j hj q
      · exact absurd q e
  · rw [eT]
    show (T.vs.set i (vI true)).getD j 0 = 0
    have e : j ≠ i := fun e => hq ((hQ j).2 (.inr e))
    rw [set_other e]
    exact h.no j hj fun q => hq ((hQ j).2 (.inl q))
  · rw [eT]; exact h.cs
theorem Vot.new {zs : List Int} {n : Nat} (h : okN zs = true) (hn : zs.length = n) {P : Nat → Prop} (hP : ∀ i, i < n → ¬ P i) : Vot zs ⟨zs, List.replicate n 0, List.replicate n (-1)⟩ P :=
  ⟨TOk.new h hn, rfl, fun i hi q => absurd q (hP i (by omega)), fun i hi _ => by simp only; simp [List.getD, (by omega : i < n)], fun i hi => by simp only; simp [List.getD, (by omega : i < n)]⟩
/-- Codes of these places, or none, of a tally that all voted yes in. -/
structure Exi (zs cs : List Int) (T : Tv) (P : Nat → Prop) : Prop where
  ok : TOk T
  ns : T.ns = zs
  vs : ∀ i, i < zs.length → T.vs.getD i 0 = 1
  yes : ∀ i, i < zs.length → P i → T.cs.getD i 0 = cs.getD i 0
  no : ∀ i, i < zs.length → ¬ P i → T.cs.getD i 0 = -1
theorem Exi.start {zs cs : List Int} {T : Tv} {P Q : Nat → Prop} (h : Vot zs T P) (hP : ∀ i, i < zs.length → P i) (hQ : ∀ i, i < zs.length → ¬ Q i) : Exi zs cs T Q :=
  ⟨h.ok, h.ns, fun i hi => h.yes i hi (hP i hi), fun i hi q => absurd q (hQ i hi), fun i hi _ => h.cs i hi⟩
theorem Exi.st {zs cs : List Int} {T : Tv} {P : Nat → Prop} (h : Exi zs cs T P) : T.st = if hasB T.cs (-1) then 1 else 3 := by
  unfold Tv.st
  have h2 : hasB T.vs 2 = false := hasB_no (n := zs.length) (by rw [h.ok.lv, h.ns]) fun j hj e => by rw [h.vs j hj] at e; omega
  have h0 : hasB T.vs 0 = false := hasB_no (n := zs.length) (by rw [h.ok.lv, h.ns]) fun j hj e => by rw [h.vs j hj] at e; omega
  rw [h2, h0]
  rfl
theorem Exi.goes {zs cs : List Int} {T : Tv} {P : Nat → Prop} (h : Exi zs cs T P) {i : Nat} (hi : i < zs.length) (hP : ¬ P i) : T.st = 1 := by
  rw [h.st, hasB_at.2 ⟨i, by rw [h.ok.lc, h.ns]; exact hi, h.no i hi hP⟩]; rfl
theorem Exi.over {zs cs : List Int} {T : Tv} {P : Nat → Prop} (h : Exi zs cs T P) (hP : ∀ i, i < zs.length → P i) (hc : ∀ i, i < zs.length → 0 ≤ cs.getD i 0) (hl : zs.length ≤ cs.length) : T.st = 3 ∧ T.code = wrst (cs.take zs.length) := by
  have hno : hasB T.cs (-1) = false := hasB_no (n := zs.length) (by rw [h.ok.lc, h.ns]) fun j hj e => by rw [h.yes j hj (hP j hj)] at e; have := hc j hj; omega
  have hst : T.st = 3 := by rw [h.st, hno]; rfl
  refine ⟨hst, ?_⟩
  unfold Tv.code
  rw [if_pos hst]
  congr 1
  have hlc : T.cs.length = zs.length := by rw [h.ok.lc, h.ns]
  apply List.ext_getElem (by rw [hlc, List.length_take]; omega)
  intro j h1 h2
  have := h.yes j (by omega) (hP j (by omega))
  rw [List.getD_eq_getElem?_getD, List.getElem?_eq_getElem h1, List.getD_eq_getElem?_getD, List.getElem?_eq_getElem (by rw [List.length_take] at h2; omega)] at this
  rw [List.getElem_take]
  exact this
theorem Exi.exit {zs cs : List Int} {T : Tv} {P Q : Nat → Prop} (h : Exi zs cs T P) {i : Nat} (hi : i < zs.length) (hP : ¬ P i) (hc : 0 ≤ cs.getD i 0 ∧ cs.getD i 0 ≤ 255) (hQ : ∀ j, Q j ↔ P j ∨ j = i) : exitE T (zs.getD i 0) (cs.getD i 0) = 0 ∧ Exi zs cs (exitT T (zs.getD i 0) (cs.getD i 0)) Q := by
  have hnd := okN_nodup h.ok.ns
  rw [h.ns] at hnd
  have hx : ixN T.ns (zs.getD i 0) = some i := by rw [h.ns]; exact ixN_at hnd hi
  have hst := h.goes hi hP
  have hv := h.no i hi hP
  have hcc : ¬ (cs.getD i 0 < 0 ∨ cs.getD i 0 > 255) := by omega
  have hne : T.cs.getD i 0 ≠ cs.getD i 0 := by omega
  have hno : ¬ (T.cs.getD i 0 ≠ -1 ∨ T.st ≠ 1) := by rintro (q | q) <;> contradiction
  have eT : exitT T (zs.getD i 0) (cs.getD i 0) = { T with cs := T.cs.set i (cs.getD i 0) } := by
    unfold exitT; rw [hx]; simp only; rw [if_neg hcc, if_neg hne, if_neg hno]
  refine ⟨by unfold exitE; rw [hx]; simp only; rw [if_neg hcc, if_neg hne, if_neg hno], h.ok.exit _ _, ?_, ?_, fun j hj hq => ?_, fun j hj hq => ?_⟩
  · rw [eT]; exact h.ns
  · rw [eT]; exact h.vs
  · rw [eT]
    show (T.cs.set i (cs.getD i 0)).getD j 0 = cs.getD j 0
    by_cases e : j = i
    · subst e; rw [set_same (by rw [h.ok.lc, h.ns]; exact hi)]
    · rw [set_other e]
      rcases (hQ j).1 hq with q | q
      · exact h.yes j hj q
      · exact absurd q e
  · rw [eT]
    show (T.cs.set i (cs.getD i 0)).getD j 0 = -1
    have e : j ≠ i := fun e => hq ((hQ j).2 (.inr e))
    rw [set_other e]
    exact h.no j hj fun q => hq ((hQ j).2 (.inl q))
end Go.Proofs.Ytodgkjmkjahkiaa
