/- Tables as lists: plain facts. -/
import Derived.Test.YtjolkcomlindhaaGG14xG15
namespace Go.Proofs.Ytjolkcomlindhaa
open Go.RowKit Go.Shelf Go.Maps Go.Sort

/-- How many of the first ones are kept. -/
def keptN (T : List Pr) (n : Int) (i : Nat) : Nat := (delP (T.take i) n).length
theorem keptN_le (T : List Pr) (n : Int) (i : Nat) : keptN T n i ≤ i := by
  unfold keptN delP
  have h1 := List.length_filter_le (fun x : Pr => !decide (x.pid = n)) (T.take i)
  have h2 := List.length_take_le i T
  omega
theorem keptN_succ {T : List Pr} {n : Int} {i : Nat} {x : Pr} (hx : T[i]? = some x) : keptN T n (i + 1) = if x.pid = n then keptN T n i else keptN T n i + 1 := by
  unfold keptN delP
  rw [List.take_add_one, hx, Option.toList_some, List.filter_append]
  by_cases e : x.pid = n
  · rw [if_pos e]; simp [e]
  · rw [if_neg e]; simp [e]
theorem kept_at {T : List Pr} {n : Int} {i : Nat} {x : Pr} (hx : T[i]? = some x) (hn : x.pid ≠ n) : (delP T n)[keptN T n i]? = some x := by
  unfold keptN delP
  have hi := (List.getElem?_eq_some_iff.1 hx).1
  have e : T = T.take i ++ x :: T.drop (i + 1) := by
    have h1 := List.take_append_drop i T
    have h2 : T.drop i = x :: T.drop (i + 1) := by
      rw [List.drop_eq_getElem_cons hi]
      rw [List.getElem?_eq_getElem hi] at hx
      injection hx with hx
      rw [hx]
    rw [h2] at h1
    exact h1.symm
  have : T.filter (fun x => !decide (x.pid = n)) = (T.take i).filter (fun x => !decide (x.pid = n)) ++ x :: (T.drop (i + 1)).filter (fun x => !decide (x.pid = n)) := by
    conv => lhs; rw [e]
    rw [List.filter_append, List.filter_cons]
    simp [hn]
  rw [this, List.getElem?_append_right (Nat.le_refl _), Nat.sub_self]
  rfl
theorem keptN_all {T : List Pr} {n : Int} {i : Nat} (h : T.length ≤ i) : keptN T n i = (delP T n).length := by
  unfold keptN
  rw [List.take_of_length_le h]
theorem relT_cases (T : List Pr) (n : Int) : relT T n = T ∨ ∃ x, lookP T n = some x ∧ x.st = 0 ∧ relT T n = updP T { x with st := 1 } := by
  unfold relT
  cases h : lookP T n with
  | none => exact .inl rfl
  | some x =>
    simp only
    by_cases e : x.st = 0
    · rw [if_pos e]; exact .inr ⟨x, rfl, e, rfl⟩
    · rw [if_neg e]; exact .inl rfl
theorem exT_cases (T : List Pr) (n c : Int) : exT T n c = T ∨ ∃ x, lookP T n = some x ∧ x.st = 1 ∧ exT T n c = updP T { x with st := 2, code := c } := by
  unfold exT
  cases h : lookP T n with
  | none => exact .inl rfl
  | some x =>
    simp only
    by_cases e0 : c < 0 ∨ 255 < c
    · rw [if_pos e0]; exact .inl rfl
    · rw [if_neg e0]
      by_cases e : x.st = 1
      · rw [if_pos e]; exact .inr ⟨x, rfl, e, rfl⟩
      · rw [if_neg e]; exact .inl rfl
theorem sgT_cases (T : List Pr) (n g : Int) : sgT T n g = T ∨ ∃ x, lookP T n = some x ∧ (g = 15 ∨ g = 9) ∧ x.st ≠ 2 ∧ sgT T n g = updP T (sgP x g) := by
  unfold sgT
  cases h : lookP T n with
  | none => exact .inl rfl
  | some x =>
    simp only
    by_cases e0 : g = 15 ∨ g = 9
    · rw [if_pos e0]
      by_cases e : x.st = 2
      · rw [if_pos e]; exact .inl rfl
      · rw [if_neg e]; exact .inr ⟨x, rfl, e0, e, rfl⟩
    · rw [if_neg e0]; exact .inl rfl
theorem rpT_cases (T : List Pr) (n : Int) : rpT T n = T ∨ ∃ x, lookP T n = some x ∧ x.st = 2 ∧ rpT T n = delP T n := by
  unfold rpT
  cases h : lookP T n with
  | none => exact .inl rfl
  | some x =>
    simp only
    by_cases e : x.st = 2
    · rw [if_pos e]; exact .inr ⟨x, rfl, e, rfl⟩
    · rw [if_neg e]; exact .inl rfl
theorem updP_len (T : List Pr) (x : Pr) : (updP T x).length = T.length := by simp [updP]
theorem delP_len (T : List Pr) (n : Int) : (delP T n).length ≤ T.length := List.length_filter_le _ _
/-- A process that was told of, and the same one later. -/
structure Up (x y : Pr) : Prop where
  g9 : x.sig = 9 → y.sig = 9
  g15 : x.sig = 15 → y.sig ≠ 0
  st : x.st ≤ y.st
  over : x.st = 2 → y.code = x.code ∧ y.sig = x.sig
theorem Up.refl (x : Pr) : Up x x := ⟨fun h => h, fun h e => by omega, Int.le_refl _, fun _ => ⟨rfl, rfl⟩⟩
theorem up_upd {T : List Pr} {x x' y : Pr} (hu : T.Pairwise fun a b => a.pid < b.pid) (hx : lookP T x'.pid = some x) (hU : Up x x') (hy : y ∈ updP T x') : ∀ z ∈ T, z.pid = y.pid → Up z y := by
  intro z hz e
  have hl := lookP_of_mem hu hz
  rcases mem_upd hy with rfl | ⟨h1, h2⟩
  · rw [e, hx] at hl
    cases hl
    exact hU
  · have := lookP_of_mem hu h1
    rw [← e, hl] at this
    cases this
    exact Up.refl _
end Go.Proofs.Ytjolkcomlindhaa
