/- Who is missing: plain facts. -/
import Derived.Test.YtodgkjmkjahkiaaV9
namespace Go.Proofs.Ytodgkjmkjahkiaa
open Go.RowKit Go.Maps

theorem selR_mem {f : Nat → Bool} {ns : List Int} {x : Int} : ∀ {n : Nat}, x ∈ selR f ns n → ∃ i, i < n ∧ f i = true ∧ ns.getD i 0 = x
  | 0, h => by cases h
  | n + 1, h => by
    unfold selR at h
    split at h
    · rename_i hf
      rcases List.mem_append.1 h with q | q
      · obtain ⟨i, h1, h2⟩ := selR_mem q
        exact ⟨i, by omega, h2⟩
      · exact ⟨n, by omega, hf, (List.mem_singleton.1 q).symm⟩
    · obtain ⟨i, h1, h2⟩ := selR_mem h
      exact ⟨i, by omega, h2⟩
theorem selR_pos {f : Nat → Bool} {ns : List Int} {i : Nat} (hf : f i = true) : ∀ {n : Nat}, i < n → 0 < (selR f ns n).length
  | 0, h => by omega
  | n + 1, h => by
    unfold selR
    by_cases e : i = n
    · subst e
      rw [if_pos hf]
      simp
    · have := selR_pos (ns := ns) hf (n := n) (by omega)
      split
      · simp
      · exact this
theorem selR_drop {f g : Nat → Bool} {ns : List Int} {i : Nat} (hf : f i = true) (hg : g i = false) (ho : ∀ j, j ≠ i → g j = f j) : ∀ {n : Nat}, i < n → (selR g ns n).length + 1 = (selR f ns n).length
  | 0, h => by omega
  | n + 1, h => by
    unfold selR
    by_cases e : i = n
    · subst e
      rw [if_pos hf, hg, selR_cong (f := g) (g := f) fun j hj => ho j (by omega)]
      simp
    · have ih := selR_drop (ns := ns) hf hg ho (n := n) (by omega)
      rw [ho n (fun q => e q.symm)]
      split
      · simp only [List.length_append, List.length_cons, List.length_nil]
        omega
      · exact ih
/-- How much is not said yet. -/
def cnt (T : Tv) : Nat := (selR (fun i => T.vs.getD i 0 == 0) T.ns T.ns.length).length + (selR (fun i => T.cs.getD i 0 == -1) T.ns T.ns.length).length
theorem cnt_le (T : Tv) : cnt T ≤ 2 * T.ns.length := by
  have h1 := selR_le (f := fun i => T.vs.getD i 0 == 0) (ns := T.ns) (n := T.ns.length)
  have h2 := selR_le (f := fun i => T.cs.getD i 0 == -1) (ns := T.ns) (n := T.ns.length)
  unfold cnt
  omega
theorem ix_at {ns : List Int} (hn : ns.Nodup) {i : Nat} (hi : i < ns.length) : ixN ns (ns.getD i 0) = some i := by
  obtain ⟨j, hj⟩ := ix_of (n := ns.getD i 0) (hasB_iff.2 (mem_getD hi))
  obtain ⟨h1, h2⟩ := ixN_some hj
  rw [hj, getD_inj hn h1 hi h2]
theorem set_d {l : List Int} {i j : Nat} {v : Int} (h : j ≠ i) : (l.set i v).getD j 0 = l.getD j 0 := set_other h
theorem miss_open {T : Tv} (h : TOk T) (hs : T.st = 0) : ∃ x r, T.miss = x :: r ∧ exitT T x 0 = T ∧ voteE T x true = 0 ∧ cnt (voteT T x true) + 1 = cnt T ∧ ((voteT T x true).st = 0 → (voteT T x true).miss.length = r.length) := by
  have hm : T.miss = selR (fun i => T.vs.getD i 0 == 0) T.ns T.ns.length := by unfold Tv.miss; rw [if_pos hs]
  have h0 : hasB T.vs 0 = true := by
    have := hs
    unfold Tv.st at this
    cases e : hasB T.vs 0 with
    | true => rfl
    | false =>
      rw [e] at this
      split at this
      · cases this
      · simp only [Bool.false_eq_true, if_false] at this
        split at this <;> cases this
  obtain ⟨i0, hi0, hv0⟩ := hasB_at.1 h0
  have hp := selR_pos (f := fun i => T.vs.getD i 0 == 0) (ns := T.ns) (i := i0) (by simpa using hv0) (n := T.ns.length) (by rw [← h.lv]; exact hi0)
  cases hL : T.miss with
  | nil => rw [← hm, hL] at hp; cases hp
  | cons x r =>
    obtain ⟨i, hi, hf, hx⟩ := selR_mem (f := fun i => T.vs.getD i 0 == 0) (ns := T.ns) (x := x) (n := T.ns.length) (by rw [← hm, hL]; exact List.mem_cons_self)
    have hv : T.vs.getD i 0 = 0 := by simpa using hf
    have hix := ix_at (okN_nodup h.ns) hi
    rw [hx] at hix
    have e1 : voteE T x true = 0 := by
      unfold voteE
      simp only [hix, vI, if_true]
      rw [if_neg (by rw [hv]; decide), if_neg (by rintro (q | q) <;> contradiction)]
    have e2 : voteT T x true = { T with vs := T.vs.set i 1 } := by
      unfold voteT
      simp only [hix, vI, if_true]
      rw [if_neg (by rw [hv]; decide), if_neg (by rintro (q | q) <;> contradiction)]
    have hd : ∀ n, i < n → (selR (fun j => (T.vs.set i 1).getD j 0 == 0) T.ns n).length + 1 = (selR (fun j => T.vs.getD j 0 == 0) T.ns n).length := fun n hn =>
      selR_drop (i := i) hf (by show ((T.vs.set i 1).getD i 0 == 0) = false; rw [set_same (by rw [h.lv]; exact hi)]; rfl) (fun j hj => by show ((T.vs.set i 1).getD j 0 == 0) = _; rw [set_other hj]) hn
    refine ⟨x, r, rfl, ?_, e1, ?_, ?_⟩
    · unfold exitT
      simp only [hix]
      rw [if_neg (by omega)]
      split
      · rfl
      · rw [if_pos (.inr (by rw [hs]; decide))]
    · rw [e2]
      have := hd T.ns.length hi
      unfold cnt
      show (selR (fun j => (T.vs.set i 1).getD j 0 == 0) T.ns T.ns.length).length + (selR (fun i => T.cs.getD i 0 == -1) T.ns T.ns.length).length + 1 = (selR (fun i => T.vs.getD i 0 == 0) T.ns T.ns.length).length + (selR (fun i => T.cs.getD i 0 == -1) T.ns T.ns.length).length
      omega
    · rw [e2]
      intro hs'
      have : Tv.miss { T with vs := T.vs.set i 1 } = selR (fun j => (T.vs.set i 1).getD j 0 == 0) T.ns T.ns.length := by unfold Tv.miss; rw [if_pos hs']
      rw [this]
      have h1 := hd T.ns.length hi
      rw [← hm, hL, List.length_cons] at h1
      omega
theorem miss_go {T : Tv} (h : TOk T) (hs : T.st = 1) : ∃ x r, T.miss = x :: r ∧ exitE T x 0 = 0 ∧ cnt (exitT T x 0) + 1 = cnt T ∧ ((exitT T x 0).st = 1 → (exitT T x 0).miss.length = r.length) := by
  have hm : T.miss = selR (fun i => T.cs.getD i 0 == -1) T.ns T.ns.length := by unfold Tv.miss; rw [if_neg (by rw [hs]; decide), if_pos hs]
  have h0 : hasB T.cs (-1) = true := by
    have := hs
    unfold Tv.st at this
    cases e : hasB T.cs (-1) with
    | true => rfl
    | false =>
      rw [e] at this
      split at this
      · cases this
      · split at this
        · cases this
        · simp only [Bool.false_eq_true, if_false] at this
          cases this
  obtain ⟨i0, hi0, hv0⟩ := hasB_at.1 h0
  have hp := selR_pos (f := fun i => T.cs.getD i 0 == -1) (ns := T.ns) (i := i0) (by simpa using hv0) (n := T.ns.length) (by rw [← h.lc]; exact hi0)
  cases hL : T.miss with
  | nil => rw [← hm, hL] at hp; cases hp
  | cons x r =>
    obtain ⟨i, hi, hf, hx⟩ := selR_mem (f := fun i => T.cs.getD i 0 == -1) (ns := T.ns) (x := x) (n := T.ns.length) (by rw [← hm, hL]; exact List.mem_cons_self)
    have hv : T.cs.getD i 0 = -1 := by simpa using hf
    have hix := ix_at (okN_nodup h.ns) hi
    rw [hx] at hix
    have e1 : exitE T x 0 = 0 := by
      unfold exitE
      simp only [hix]
      rw [if_neg (by omega), if_neg (by rw [hv]; decide), if_neg (by rintro (q | q) <;> contradiction)]
    have e2 : exitT T x 0 = { T with cs := T.cs.set i 0 } := by
      unfold exitT
      simp only [hix]
      rw [if_neg (by omega), if_neg (by rw [hv]; decide), if_neg (by rintro (q | q) <;> contradiction)]
    have hd : ∀ n, i < n → (selR (fun j => (T.cs.set i 0).getD j 0 == -1) T.ns n).length + 1 = (selR (fun j => T.cs.getD j 0 == -1) T.ns n).length := fun n hn =>
      selR_drop (i := i) hf (by show ((T.cs.set i 0).getD i 0 == -1) = false; rw [set_same (by rw [h.lc]; exact hi)]; rfl) (fun j hj => by show ((T.cs.set i 0).getD j 0 == -1) = _; rw [set_other hj]) hn
    refine ⟨x, r, rfl, e1, ?_, ?_⟩
    · rw [e2]
      have := hd T.ns.length hi
      unfold cnt
      show (selR (fun i => T.vs.getD i 0 == 0) T.ns T.ns.length).length + (selR (fun j => (T.cs.set i 0).getD j 0 == -1) T.ns T.ns.length).length + 1 = (selR (fun i => T.vs.getD i 0 == 0) T.ns T.ns.length).length + (selR (fun i => T.cs.getD i 0 == -1) T.ns T.ns.length).length
      omega
    · rw [e2]
      intro hs'
      have : Tv.miss { T with cs := T.cs.set i 0 } = selR (fun j => (T.cs.set i 0).getD j 0 == -1) T.ns T.ns.length := by unfold Tv.miss; rw [if_neg (by rw [hs']; decide), if_pos hs']
      rw [this]
      have h1 := hd T.ns.length hi
      rw [← hm, hL, List.length_cons] at h1
      omega
theorem miss_else {T : Tv} (h : T.st = 2 ∨ T.st = 3) : T.miss = [] := by
  unfold Tv.miss
  rcases h with h | h <;> rw [h, if_neg (by decide), if_neg (by decide)]
theorem TOk.op {T : Tv} (h : TOk T) (o : Op4) : TOk (opT T o) := by
  unfold opT
  split
  · exact h.vote _ _
  · exact h.exit _ _
end Go.Proofs.Ytodgkjmkjahkiaa
