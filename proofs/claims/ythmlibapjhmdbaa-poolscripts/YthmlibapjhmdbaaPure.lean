/- Sets of cores as lists of four numbers: plain facts. -/

namespace Go.Proofs.Ythmlibapjhmdbaa
namespace Mk

def nth (l : List Nat) (i : Nat) : Nat := l.getD i 0
/-- Four words. -/
def W4 (l : List Nat) : Prop := l.length = 4 ∧ ∀ i, nth l i < 2 ^ 64
def hasB (l : List Nat) (c : Nat) : Bool := (nth l (c / 64)).testBit (c % 64)
def wth (l : List Nat) (c : Nat) : List Nat := l.set (c / 64) (nth l (c / 64) ||| 2 ^ (c % 64))
def zero : List Nat := [0, 0, 0, 0]
def ofL (xs : List Nat) : List Nat := xs.foldl wth zero

theorem nth_getElem? (l : List Nat) (i : Nat) : nth l i = (l[i]?).getD 0 := by simp [nth]
theorem nth_set (l : List Nat) (i j x : Nat) (h : i < l.length) : nth (l.set i x) j = if i = j then x else nth l j := by
  rw [nth_getElem?, nth_getElem?, List.getElem?_set]
  by_cases e : i = j
  · subst e; simp [h]
  · simp [e]
theorem W4.zero : W4 zero := by
  refine ⟨rfl, fun i => ?_⟩
  match i with
  | 0 | 1 | 2 | 3 => decide
  | n + 4 => simp [nth, Mk.zero]
theorem W4.set {l : List Nat} (h : W4 l) {i x : Nat} (hi : i < 4) (hx : x < 2 ^ 64) : W4 (l.set i x) := by
  refine ⟨by simp [h.1], fun j => ?_⟩
  rw [nth_set _ _ _ _ (by rw [h.1]; exact hi)]
  split
  · exact hx
  · exact h.2 j
theorem W4.wth {l : List Nat} (h : W4 l) {c : Nat} (hc : c < 256) : W4 (wth l c) :=
  h.set (by omega) (Nat.or_lt_two_pow (h.2 _) (Nat.pow_lt_pow_right (by decide) (by omega)))
theorem has_zero (d : Nat) : hasB zero d = false := by
  unfold hasB
  have : nth zero (d / 64) = 0 := by
    generalize d / 64 = i
    match i with
    | 0 | 1 | 2 | 3 => rfl
    | n + 4 => simp [nth, zero]
  rw [this]; simp
theorem has_wth {l : List Nat} (h : l.length = 4) {c : Nat} (hc : c < 256) (d : Nat) : hasB (wth l c) d = (hasB l d || decide (d = c)) := by
  unfold hasB wth
  rw [nth_set _ _ _ _ (by rw [h]; omega)]
  by_cases e : c / 64 = d / 64
  · rw [if_pos e, Nat.testBit_or, Nat.testBit_two_pow, e]
    congr 1
    by_cases e2 : d = c
    · subst e2; simp
    · simp [e2]; omega
  · rw [if_neg e]
    have : d ≠ c := by rintro rfl; exact e rfl
    simp [this]
theorem foldl_W4 : ∀ (xs : List Nat) (l : List Nat), W4 l → (∀ x ∈ xs, x < 256) → W4 (xs.foldl wth l)
  | [], _, h, _ => h
  | x :: xs, l, h, hx => foldl_W4 xs _ (h.wth (hx x (by simp))) (fun y hy => hx y (by simp [hy]))
theorem has_foldl : ∀ (xs : List Nat) (l : List Nat), W4 l → (∀ x ∈ xs, x < 256) → ∀ d, hasB (xs.foldl wth l) d = (hasB l d || decide (d ∈ xs))
  | [], _, _, _, _ => by simp
  | x :: xs, l, h, hx, d => by
    rw [List.foldl_cons, has_foldl xs _ (h.wth (hx x (by simp))) (fun y hy => hx y (by simp [hy])), has_wth h.1 (hx x (by simp)), Bool.or_assoc]
    congr 1
    simp [Bool.decide_or]
theorem ofL_W4 {xs : List Nat} (hx : ∀ x ∈ xs, x < 256) : W4 (ofL xs) := foldl_W4 xs _ W4.zero hx
theorem has_ofL {xs : List Nat} (hx : ∀ x ∈ xs, x < 256) (d : Nat) : hasB (ofL xs) d = decide (d ∈ xs) := by
  unfold ofL; rw [has_foldl xs _ W4.zero hx, has_zero, Bool.false_or]
theorem ofL_snoc (xs : List Nat) (c : Nat) : ofL (xs ++ [c]) = wth (ofL xs) c := by simp [ofL]
theorem ext {a b : List Nat} (ha : W4 a) (hb : W4 b) (h : ∀ d, d < 256 → hasB a d = hasB b d) : a = b := by
  apply List.ext_getElem (by rw [ha.1, hb.1])
  intro i h1 h2
  have hi : i < 4 := by rw [ha.1] at h1; exact h1
  have ea : nth a i = a[i] := by simp [nth, h1]
  have eb : nth b i = b[i] := by simp [nth, h2]
  rw [← ea, ← eb]
  apply Nat.eq_of_testBit_eq
  intro j
  by_cases hj : j < 64
  · have := h (64 * i + j) (by omega)
    unfold hasB at this
    rw [show (64 * i + j) / 64 = i by omega, show (64 * i + j) % 64 = j by omega] at this
    exact this
  · rw [Nat.testBit_lt_two_pow (Nat.lt_of_lt_of_le (ha.2 i) (Nat.pow_le_pow_right (by decide) (by omega))), Nat.testBit_lt_two_pow (Nat.lt_of_lt_of_le (hb.2 i) (Nat.pow_le_pow_right (by decide) (by omega)))]
theorem has_out {l : List Nat} (h : l.length = 4) (d : Nat) (hd : 256 ≤ d) : hasB l d = false := by
  unfold hasB
  have : nth l (d / 64) = 0 := by
    rw [nth_getElem?, List.getElem?_eq_none (by omega)]; rfl
  rw [this]; simp
theorem nth_replicate (n i : Nat) : nth (List.replicate n 0) i = 0 := by
  rw [nth_getElem?, List.getElem?_replicate]; split <;> rfl
theorem len4 {l : List Nat} (h : l.length = 4) : l = [nth l 0, nth l 1, nth l 2, nth l 3] := by
  match l, h with
  | [_, _, _, _], _ => rfl

end Mk
end Go.Proofs.Ythmlibapjhmdbaa
