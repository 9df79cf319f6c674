/- The lowest bit of a word: plain facts. -/
import Derived.Test.YthmlibapjhmdbaaDoorPop
namespace Go.Proofs.YthmlibapjhmdbaaDoor
namespace Mk

/-- The place of the lowest bit among the first n. -/
def tzr : Nat → Nat → Nat
  | 0, _ => 0
  | n + 1, x => if x % 2 = 1 then 0 else tzr n (x / 2) + 1
theorem tzr_form : ∀ n x, 0 < x → x < 2 ^ n → tzr n x < n ∧ ∃ q, x = 2 ^ (tzr n x + 1) * q + 2 ^ (tzr n x)
  | 0, x, h0, h1 => by rw [Nat.pow_zero] at h1; omega
  | n + 1, x, h0, h1 => by
    rw [tzr]
    by_cases ho : x % 2 = 1
    · rw [if_pos ho]
      exact ⟨by omega, x / 2, by rw [Nat.zero_add, Nat.pow_one, Nat.pow_zero]; omega⟩
    · rw [if_neg ho]
      obtain ⟨h2, q, hq⟩ := tzr_form n (x / 2) (by omega) (by rw [Nat.pow_succ] at h1; omega)
      refine ⟨by omega, q, ?_⟩
      have e : x = 2 * (x / 2) := by omega
      rw [show 2 ^ (tzr n (x / 2) + 1 + 1) = 2 ^ tzr n (x / 2) * 2 * 2 by rw [Nat.pow_succ, Nat.pow_succ], show 2 ^ (tzr n (x / 2) + 1) = 2 ^ tzr n (x / 2) * 2 by rw [Nat.pow_succ]]
      rw [Nat.pow_succ] at hq
      generalize 2 ^ tzr n (x / 2) = P at *
      generalize x / 2 = y at *
      rw [e, hq]
      rw [show P * 2 * 2 * q = 2 * (P * 2 * q) by rw [Nat.mul_assoc (P * 2), Nat.mul_left_comm]]
      omega
theorem form_bit (j q k : Nat) : (2 ^ (j + 1) * q + 2 ^ j).testBit k = if k < j + 1 then decide (j = k) else q.testBit (k - (j + 1)) := by
  rw [Nat.testBit_two_pow_mul_add _ (Nat.pow_lt_pow_right (by decide) (Nat.lt_succ_self j))]
  rw [Nat.testBit_two_pow]
theorem and_pred (j q : Nat) : (2 ^ (j + 1) * q + 2 ^ j) &&& (2 ^ (j + 1) * q + 2 ^ j - 1) = 2 ^ (j + 1) * q := by
  have hp : 0 < 2 ^ j := Nat.two_pow_pos j
  apply Nat.eq_of_testBit_eq
  intro k
  rw [Nat.testBit_and, form_bit, Nat.add_sub_assoc hp, Nat.testBit_two_pow_mul_add _ (Nat.lt_of_le_of_lt (Nat.sub_le _ _) (Nat.pow_lt_pow_right (by decide) (Nat.lt_succ_self j))),
    Nat.testBit_two_pow_mul, Nat.testBit_two_pow_sub_one]
  by_cases hk : k < j + 1
  · rw [if_pos hk, if_pos hk]
    have : ¬ j + 1 ≤ k := by omega
    simp [this]
    omega
  · rw [if_neg hk, if_neg hk]
    have : j + 1 ≤ k := by omega
    simp [this]
theorem and_neg (j q n : Nat) (h : 2 ^ (j + 1) * q + 2 ^ j < 2 ^ n) (hj : j < n) : (2 ^ (j + 1) * q + 2 ^ j) &&& (2 ^ n - (2 ^ (j + 1) * q + 2 ^ j)) = 2 ^ j := by
  obtain ⟨m, rfl⟩ : ∃ m, n = j + 1 + m := ⟨n - (j + 1), by omega⟩
  have hp : 0 < 2 ^ j := Nat.two_pow_pos j
  have hq : q < 2 ^ m := by
    rw [Nat.pow_add 2 (j + 1) m] at h
    exact Nat.lt_of_mul_lt_mul_left (Nat.lt_of_le_of_lt (Nat.le_add_right _ _) h)
  have e : 2 ^ (j + 1 + m) - (2 ^ (j + 1) * q + 2 ^ j) = 2 ^ (j + 1) * (2 ^ m - (q + 1)) + 2 ^ j := by
    rw [Nat.pow_add 2 (j + 1) m, Nat.mul_sub, Nat.mul_add, Nat.mul_one]
    have h2 : 2 ^ (j + 1) * (q + 1) ≤ 2 ^ (j + 1) * 2 ^ m := Nat.mul_le_mul_left _ hq
    rw [Nat.mul_add, Nat.mul_one] at h2
    rw [Nat.pow_succ] at *
    omega
  rw [e]
  apply Nat.eq_of_testBit_eq
  intro k
  rw [Nat.testBit_and, form_bit, form_bit, Nat.testBit_two_pow]
  by_cases hk : k < j + 1
  · rw [if_pos hk, if_pos hk, Bool.and_self]
  · rw [if_neg hk, if_neg hk, Nat.testBit_two_pow_sub_succ hq]
    have : j ≠ k := by omega
    cases q.testBit (k - (j + 1)) <;> simp [this]
/-- A word from place t on. -/
def hi (m t : Nat) : Nat := 2 ^ t * (m / 2 ^ t)
theorem hi_zero (m : Nat) : hi m 0 = m := by simp [hi]
theorem hi_le (m t : Nat) : hi m t ≤ m := Nat.mul_div_le m (2 ^ t)
theorem hi_none {m t : Nat} (h : hi m t = 0) (k : Nat) (hk : t ≤ k) : m.testBit k = false := by
  unfold hi at h
  have : m / 2 ^ t = 0 := by
    rcases Nat.mul_eq_zero.1 h with h1 | h1
    · have := Nat.two_pow_pos t; omega
    · exact h1
  obtain ⟨d, rfl⟩ : ∃ d, k = d + t := ⟨k - t, by omega⟩
  rw [← Nat.testBit_div_two_pow, this]
  simp
theorem hi_step {m t : Nat} (hm : m < 2 ^ 64) (h : hi m t ≠ 0) : t ≤ tzr 64 (hi m t) ∧ tzr 64 (hi m t) < 64 ∧ m.testBit (tzr 64 (hi m t)) = true ∧ (∀ k, t ≤ k → k < tzr 64 (hi m t) → m.testBit k = false) ∧ hi m t &&& (hi m t - 1) = hi m (tzr 64 (hi m t) + 1) ∧ hi m t &&& (2 ^ 64 - hi m t) = 2 ^ tzr 64 (hi m t) := by
  have hl := Nat.lt_of_le_of_lt (hi_le m t) hm
  obtain ⟨h1, q, hq⟩ := tzr_form 64 (hi m t) (Nat.pos_of_ne_zero h) hl
  generalize tzr 64 (hi m t) = j at *
  have hr : m % 2 ^ t < 2 ^ t := Nat.mod_lt _ (Nat.two_pow_pos t)
  have hme : m = hi m t + m % 2 ^ t := (Nat.div_add_mod m (2 ^ t)).symm
  have htj : t ≤ j := by
    rcases Nat.lt_or_ge j t with hlt | hge
    · have b1 : (hi m t).testBit j = true := by rw [hq, form_bit]; simp
      unfold hi at b1
      rw [Nat.testBit_two_pow_mul] at b1
      simp at b1
      omega
    · exact hge
  have hrj : m % 2 ^ t < 2 ^ j := Nat.lt_of_lt_of_le hr (Nat.pow_le_pow_right (by decide) htj)
  have hme2 : m = 2 ^ (j + 1) * q + (2 ^ j + m % 2 ^ t) := by rw [← Nat.add_assoc, ← hq]; exact hme
  have hsm : 2 ^ j + m % 2 ^ t < 2 ^ (j + 1) := by rw [Nat.pow_succ]; omega
  refine ⟨htj, h1, ?_, ?_, ?_, ?_⟩
  · rw [hme2, Nat.testBit_two_pow_mul_add _ hsm, if_pos (Nat.lt_succ_self j), Nat.testBit_two_pow_add_eq, Nat.testBit_lt_two_pow hrj]; rfl
  · intro k hk1 hk2
    rw [hme2, Nat.testBit_two_pow_mul_add _ hsm, if_pos (by omega), Nat.testBit_two_pow_add_gt hk2]
    exact Nat.testBit_lt_two_pow (Nat.lt_of_lt_of_le hr (Nat.pow_le_pow_right (by decide) hk1))
  · rw [hq, and_pred]
    unfold hi
    congr 1
    rw [hme2, Nat.mul_add_div (Nat.two_pow_pos _), Nat.div_eq_of_lt hsm, Nat.add_zero]
  · rw [hq] at hl ⊢
    exact and_neg j q 64 hl h1
/-- The table of TrailingZeros64. -/
def deb : List Nat := [0, 1, 56, 2, 57, 49, 28, 3, 61, 58, 42, 50, 38, 29, 17, 4, 62, 47, 59, 36, 45, 43, 51, 22, 53, 39, 33, 30, 24, 18, 12, 5, 63, 55, 48, 27, 60, 41, 37, 16, 46, 35, 44, 21, 52, 32, 23, 11, 54, 26, 40, 15, 34, 20, 31, 10, 25, 14, 19, 9, 13, 8, 7, 6]
theorem deb_ok : ∀ j : Fin 64, nth deb (2 ^ j.val * 285870213051353865 % 18446744073709551616 / 288230376151711744) = j.val ∧ 2 ^ j.val * 285870213051353865 % 18446744073709551616 / 288230376151711744 < 64 := by decide +kernel
end Mk
end Go.Proofs.YthmlibapjhmdbaaDoor
