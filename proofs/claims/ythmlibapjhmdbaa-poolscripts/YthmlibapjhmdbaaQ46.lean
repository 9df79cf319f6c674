/- The document's pool: Owners. -/
import Derived.Test.YthmlibapjhmdbaaQ44
namespace Go.Proofs.Ythmlibapjhmdbaa
open Go.RowKit Go.Shelf Go.Maps

/-- One more of the owners so far is told; a new one is laid where it belongs. -/
def insS (n : Int) (st : List Int × Bool) (x : Int) : List Int × Bool :=
  let l := if st.2 = false ∧ n ≤ x then (st.1 ++ [n], true) else st
  (if x = n then l.1 else l.1 ++ [x], l.2)
def insO (n : Int) (out : List Int) : List Int :=
  let r := out.foldl (insS n) ([], false)
  if r.2 = true then r.1 else r.1 ++ [n]
theorem ins_all {n : Int} {l : List Int} (h : ∀ x ∈ l, x < n) : l.filter (fun x => decide (x < n)) = l ∧ l.filter (fun x => decide (n < x)) = [] :=
  ⟨List.filter_eq_self.2 fun x hx => by simpa using h x hx, List.filter_eq_nil_iff.2 fun x hx => by have := h x hx; simp; omega⟩
theorem rev_ind {P : List Int → Prop} (h0 : P []) (h1 : ∀ l x, P l → P (l ++ [x])) (l : List Int) : P l := by
  have h : ∀ m : List Int, P m.reverse := by
    intro m
    induction m with
    | nil => exact h0
    | cons x m ih => rw [List.reverse_cons]; exact h1 _ _ ih
  simpa using h l.reverse
/-- What has come of it. -/
def InsP (n : Int) (l : List Int) : Prop :=
    ((l.foldl (insS n) ([], false)).2 = false ∧ (∀ x ∈ l, x < n) ∧ (l.foldl (insS n) ([], false)).1 = l) ∨
    ((l.foldl (insS n) ([], false)).2 = true ∧ (∃ y ∈ l, n ≤ y) ∧ (l.foldl (insS n) ([], false)).1 = l.filter (fun x => decide (x < n)) ++ n :: l.filter (fun x => decide (n < x)))
theorem ins_fold (n : Int) : ∀ (l : List Int), l.Pairwise (· < ·) → InsP n l := by
  intro l
  refine rev_ind (P := fun l => l.Pairwise (· < ·) → InsP n l) ?_ ?_ l
  · intro _; exact .inl ⟨rfl, fun x hx => (by cases hx), rfl⟩
  · intro l x ih hp
    obtain ⟨h1, _, h3⟩ := List.pairwise_append.1 hp
    have h4 : ∀ y ∈ l, y < x := fun y hy => h3 y hy x (by simp)
    unfold InsP at ih ⊢
    rw [List.foldl_append]
    generalize List.foldl (insS n) ([], false) l = r at ih ⊢
    obtain ⟨r1, r2⟩ := r
    simp only [List.foldl_cons, List.foldl_nil, insS]
    rcases ih h1 with ⟨e1, e2, e3⟩ | ⟨e1, ⟨y, hy, hny⟩, e3⟩
    · dsimp only at e1 e3
      subst e1
      subst e3
      by_cases hx : n ≤ x
      · right
        rw [if_pos ⟨rfl, hx⟩]
        refine ⟨rfl, ⟨x, by simp, hx⟩, ?_⟩
        obtain ⟨f1, f2⟩ := ins_all e2
        rw [List.filter_append, List.filter_append, f1, f2]
        by_cases e : x = n
        · subst e; simp
        · have h5 : ¬ x < n := by omega
          have h6 : n < x := by omega
          simp [e, h5, h6]
      · left
        rw [if_neg (fun h => hx h.2)]
        refine ⟨rfl, fun z hz => ?_, ?_⟩
        · rcases List.mem_append.1 hz with h | h
          · exact e2 z h
          · rw [List.mem_singleton.1 h]; omega
        · rw [if_neg (by omega)]
    · dsimp only at e1 e3
      subst e1
      subst e3
      right
      have := h4 y hy
      rw [if_neg (fun h => by cases h.1), if_neg (by omega)]
      refine ⟨rfl, ⟨y, by simp [hy], hny⟩, ?_⟩
      have h5 : ¬ x < n := by omega
      have h6 : n < x := by omega
      rw [List.filter_append, List.filter_append]
      simp [h5, h6]
theorem insO_eq {n : Int} {l : List Int} (h : l.Pairwise (· < ·)) : insO n l = l.filter (fun x => decide (x < n)) ++ n :: l.filter (fun x => decide (n < x)) := by
  unfold insO
  rcases ins_fold n l h with ⟨e1, e2, e3⟩ | ⟨e1, _, e3⟩
  · simp only [e1, e3]
    obtain ⟨f1, f2⟩ := ins_all e2
    rw [f1, f2]
    rfl
  · simp only [e1, e3]
    rfl
theorem insO_up {n : Int} {l : List Int} (h : l.Pairwise (· < ·)) : (insO n l).Pairwise (· < ·) := by
  rw [insO_eq h]
  refine List.pairwise_append.2 ⟨h.filter _, List.pairwise_cons.2 ⟨fun x hx => by simpa using (List.mem_filter.1 hx).2, h.filter _⟩, fun x hx y hy => ?_⟩
  have hx2 : x < n := by simpa using (List.mem_filter.1 hx).2
  rcases List.mem_cons.1 hy with rfl | hy
  · exact hx2
  · have hy2 : n < y := by simpa using (List.mem_filter.1 hy).2
    omega
theorem insO_mem {n : Int} {l : List Int} (h : l.Pairwise (· < ·)) (x : Int) : x ∈ insO n l ↔ x = n ∨ x ∈ l := by
  rw [insO_eq h]
  simp only [List.mem_append, List.mem_cons, List.mem_filter, decide_eq_true_eq]
  constructor
  · rintro (h | h | h)
    · exact .inr h.1
    · exact .inl h
    · exact .inr h.1
  · rintro (h | h)
    · exact .inr (.inl h)
    · rcases Int.lt_trichotomy x n with l | l | l
      · exact .inl ⟨h, l⟩
      · exact .inr (.inl l)
      · exact .inr (.inr ⟨h, l⟩)
theorem ins_len {n : Int} {l : List Int} (h : l.Pairwise (· < ·)) : (l.foldl (insS n) ([], false)).1.length ≤ l.length + 1 := by
  rcases ins_fold n l h with ⟨_, _, e3⟩ | ⟨_, _, e3⟩
  · rw [e3]; omega
  · rw [e3]
    have := split_len n l
    simp only [List.length_append, List.length_cons]
    omega
theorem insO_len {n : Int} {l : List Int} (h : l.Pairwise (· < ·)) : (insO n l).length ≤ l.length + 1 := by
  rw [insO_eq h]
  have := split_len n l
  simp only [List.length_append, List.length_cons]
  omega
/-- The owners of the first cores. -/
def ows (Ow : List Int) (k : Nat) : List Int := (Ow.take k).foldl (fun o n => if n < 0 then o else insO n o) []
theorem ows_snoc {Ow : List Int} {k : Nat} {z : Int} (h : Ow[k]? = some z) : ows Ow (k + 1) = if z < 0 then ows Ow k else insO z (ows Ow k) := by
  unfold ows
  rw [List.take_add_one, h, List.foldl_append]
  rfl
theorem ows_up (Ow : List Int) : ∀ k, (ows Ow k).Pairwise (· < ·)
  | 0 => by simp [ows]
  | k + 1 => by
    cases h : Ow[k]? with
    | none =>
      have e : ows Ow (k + 1) = ows Ow k := by unfold ows; rw [List.take_add_one, h]; simp
      rw [e]
      exact ows_up Ow k
    | some z =>
      rw [ows_snoc h]
      split
      · exact ows_up Ow k
      · exact insO_up (ows_up Ow k)
theorem ows_mem (Ow : List Int) (x : Int) : ∀ k, x ∈ ows Ow k ↔ 0 ≤ x ∧ ∃ c, c < k ∧ Ow[c]? = some x
  | 0 => by simp [ows]
  | k + 1 => by
    have ih := ows_mem Ow x k
    cases h : Ow[k]? with
    | none =>
      have e : ows Ow (k + 1) = ows Ow k := by unfold ows; rw [List.take_add_one, h]; simp
      rw [e, ih]
      refine and_congr Iff.rfl ⟨fun ⟨c, h1, h2⟩ => ⟨c, by omega, h2⟩, fun ⟨c, h1, h2⟩ => ⟨c, ?_, h2⟩⟩
      rcases Nat.lt_or_ge c k with l | l
      · exact l
      · have : c = k := by omega
        rw [this, h] at h2
        cases h2
    | some z =>
      rw [ows_snoc h]
      split
      · rename_i hz
        rw [ih]
        constructor
        · rintro ⟨h0, c, h1, h2⟩
          exact ⟨h0, c, by omega, h2⟩
        · rintro ⟨h0, c, h1, h2⟩
          refine ⟨h0, c, ?_, h2⟩
          rcases Nat.lt_or_ge c k with l | l
          · exact l
          · have : c = k := by omega
            rw [this, h] at h2
            cases h2
            omega
      · rename_i hz
        rw [insO_mem (ows_up Ow k), ih]
        constructor
        · rintro (rfl | ⟨h0, c, h1, h2⟩)
          · exact ⟨by omega, k, by omega, h⟩
          · exact ⟨h0, c, by omega, h2⟩
        · rintro ⟨h0, c, h1, h2⟩
          rcases Nat.lt_or_ge c k with l | l
          · exact .inr ⟨h0, c, l, h2⟩
          · have : c = k := by omega
            rw [this, h] at h2
            cases h2
            exact .inl rfl
theorem ows_len (Ow : List Int) : ∀ k, (ows Ow k).length ≤ k
  | 0 => by simp [ows]
  | k + 1 => by
    have ih := ows_len Ow k
    cases h : Ow[k]? with
    | none =>
      have e : ows Ow (k + 1) = ows Ow k := by unfold ows; rw [List.take_add_one, h]; simp
      rw [e]
      omega
    | some z =>
      rw [ows_snoc h]
      split
      · omega
      · have := insO_len (n := z) (ows_up Ow k)
        omega
theorem W4.some_ {m : List Nat} (h : Mk.W4 m) (hz : m ≠ Mk.zero) : ∃ x, x < 256 ∧ Mk.hasB m x = true := by
  by_cases e : ∃ x, x < 256 ∧ Mk.hasB m x = true
  · exact e
  · refine absurd (Mk.ext h Mk.W4.zero fun x hx => ?_) hz
    rw [Mk.has_zero]
    cases hb : Mk.hasB m x with
    | false => rfl
    | true => exact absurd ⟨x, hx, hb⟩ e
/-- The owners of both. -/
theorem Agr.ows {N k : Nat} {g : Int → Option Sh} {Ow Dn L : List Int} (h : Agr N g Ow Dn) (hN : N ≤ 256) (hO : Own g L k) : Ythmlibapjhmdbaa.ows Ow N = L := by
  have h2 : Own g (Ythmlibapjhmdbaa.ows Ow N) (max k N) := ⟨ows_up Ow N, fun x => ?_, by have := ows_len Ow N; omega, h.some_⟩
  · exact own_same h2 hO
  · rw [ows_mem]
    constructor
    · rintro ⟨h0, c, h1, h2⟩
      obtain ⟨d, h3, _⟩ := (h.own c x h1 h0).1 h2
      rw [h3]; rfl
    · intro h1
      obtain ⟨d, hd⟩ := Option.isSome_iff_exists.1 h1
      have h0 := isOwn_ge (h.isO x d hd)
      obtain ⟨y, hy, hb⟩ := W4.some_ d.ok (h.some_ x d hd)
      have hlt := h.inN hN hd hy hb
      exact ⟨h0, y, hlt, (h.own y x hlt h0).2 ⟨d, hd, hb⟩⟩
end Go.Proofs.Ythmlibapjhmdbaa
