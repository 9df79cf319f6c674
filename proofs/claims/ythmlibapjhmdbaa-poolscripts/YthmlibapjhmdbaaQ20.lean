/- A pool's owners as a rising list. -/
import Derived.Test.YthmlibapjhmdbaaQ19
namespace Go.Proofs.Ythmlibapjhmdbaa
open Go.RowKit Go.Shelf Go.Maps

theorem split_len (n : Int) : ∀ L : List Int, (L.filter (fun x => decide (x < n))).length + (L.filter (fun x => decide (n < x))).length ≤ L.length
  | [] => by simp
  | x :: L => by
    have := split_len n L
    simp only [List.filter_cons, List.length_cons]
    rcases Int.lt_trichotomy x n with h | h | h
    · have h2 : ¬ n < x := by omega
      simp [h, h2]; omega
    · have h1 : ¬ x < n := by omega
      have h2 : ¬ n < x := by omega
      simp [h1, h2]; omega
    · have h2 : ¬ x < n := by omega
      simp [h, h2]; omega
/-- Who has cores: rising, at most so many; and each has one. -/
structure Own (g : Int → Option Sh) (L : List Int) (k : Nat) : Prop where
  up : L.Pairwise (· < ·)
  has : ∀ n, n ∈ L ↔ (g n).isSome = true
  len : L.length ≤ k
  some_ : ∀ n c, g n = some c → c.m ≠ Mk.zero
theorem Own.none : Own (fun _ => Option.none) [] 0 := ⟨List.Pairwise.nil, fun n => by simp, Nat.le_refl _, fun n c h => by cases h⟩
theorem Own.more {g : Int → Option Sh} {L : List Int} {k : Nat} (h : Own g L k) : Own g L (k + 1) := ⟨h.up, h.has, by have := h.len; omega, h.some_⟩
theorem Own.put {g : Int → Option Sh} {L : List Int} {k : Nat} (h : Own g L k) (n : Int) {c : Sh} (hc : c.m ≠ Mk.zero) : ∃ L', Own (fun m => if m = n then some c else g m) L' (k + 1) := by
  refine ⟨L.filter (fun x => decide (x < n)) ++ n :: L.filter (fun x => decide (n < x)), ?_, fun m => ?_, ?_, fun m d hd => ?_⟩
  · refine List.pairwise_append.2 ⟨h.up.filter _, List.pairwise_cons.2 ⟨fun x hx => by simpa using (List.mem_filter.1 hx).2, h.up.filter _⟩, fun x hx y hy => ?_⟩
    have hx2 : x < n := by simpa using (List.mem_filter.1 hx).2
    rcases List.mem_cons.1 hy with rfl | hy
    · exact hx2
    · have hy2 : n < y := by simpa using (List.mem_filter.1 hy).2
      omega
  · simp only [List.mem_append, List.mem_cons, List.mem_filter, decide_eq_true_eq]
    by_cases e : m = n
    · subst e; simp
    · rw [if_neg e, ← h.has m]
      constructor
      · rintro (h | h | h)
        · exact h.1
        · exact absurd h e
        · exact h.1
      · intro hm
        rcases Int.lt_trichotomy m n with l | l | l
        · exact .inl ⟨hm, l⟩
        · exact absurd l e
        · exact .inr (.inr ⟨hm, l⟩)
  · have h1 := split_len n L
    have h2 := h.len
    simp only [List.length_append, List.length_cons]
    omega
  · by_cases e : m = n
    · simp only [if_pos e] at hd
      cases hd
      exact hc
    · simp only [if_neg e] at hd
      exact h.some_ m d hd
theorem Own.del {g : Int → Option Sh} {L : List Int} {k : Nat} (h : Own g L k) (n : Int) : ∃ L', Own (fun m => if m = n then Option.none else g m) L' k := by
  refine ⟨L.filter (fun x => decide (x ≠ n)), h.up.filter _, fun m => ?_, ?_, fun m d hd => ?_⟩
  · simp only [List.mem_filter, decide_eq_true_eq]
    by_cases e : m = n
    · subst e; simp
    · rw [if_neg e, ← h.has m]
      simp [e]
  · have := List.length_filter_le (fun x => decide (x ≠ n)) L
    have h2 := h.len
    omega
  · by_cases e : m = n
    · simp only [if_pos e] at hd
      cases hd
    · simp only [if_neg e] at hd
      exact h.some_ m d hd
/-- Who is among the owners has a core. -/
theorem Own.in_ {g : Int → Option Sh} {L : List Int} {k : Nat} (h : Own g L k) (n : Int) : decide (n ∈ L) = decide (((g n).getD Sh.none).m ≠ Mk.zero) := by
  rw [Bool.eq_iff_iff, decide_eq_true_eq, decide_eq_true_eq, h.has n]
  cases hg : g n with
  | none => exact ⟨fun h => (by cases h), fun h => absurd rfl h⟩
  | some c => exact ⟨fun _ => h.some_ n c hg, fun _ => rfl⟩
end Go.Proofs.Ythmlibapjhmdbaa
