/- The document's own words, as the reference reckons them: word, shr, rot. -/
import Derived.Test.YtalknjokamfggaaDoorW3
namespace Go.Proofs.YtalknjokamfggaaDoor
open Go.RowKit

/-- Turning bits as a sum. -/
theorem rotr_sum (x k : Nat) (hx : x < 4294967296) (hk : k ≤ 32) : Sh.rotr x k = (x % 2 ^ k) * 2 ^ (32 - k) + x / 2 ^ k := by
  have e1 : x * 2 ^ (32 - k) % 4294967296 = (x % 2 ^ k) * 2 ^ (32 - k) := by
    have h32 : (4294967296 : Nat) = 2 ^ k * 2 ^ (32 - k) := by rw [← Nat.pow_add, show k + (32 - k) = 32 from by omega]
    rw [h32, Nat.mul_mod_mul_right]
  have hb : x / 2 ^ k < 2 ^ (32 - k) := by
    apply Nat.div_lt_of_lt_mul
    rw [← Nat.pow_add, show k + (32 - k) = 32 from by omega]
    exact hx
  unfold Sh.rotr
  rw [e1, Nat.mul_comm (x % 2 ^ k)]
  exact (Nat.two_pow_add_eq_or_of_lt hb _).symm
theorem rotr_step (x k : Nat) (hx : x < 4294967296) (hk : k < 32) : Sh.rotr x (k + 1) = Sh.rotr x k / 2 + Sh.rotr x k % 2 * 2147483648 := by
  rw [rotr_sum x (k + 1) hx (by omega), rotr_sum x k hx (by omega)]
  obtain ⟨m, hm⟩ : ∃ m, 32 - k = m + 1 := ⟨31 - k, by omega⟩
  rw [show 32 - (k + 1) = m from by omega, hm]
  have e1 : x % 2 ^ (k + 1) = x % 2 ^ k + 2 ^ k * (x / 2 ^ k % 2) := by rw [Nat.pow_succ, Nat.mod_mul]
  have e2 : x / 2 ^ (k + 1) = x / 2 ^ k / 2 := by rw [Nat.pow_succ, Nat.div_div_eq_div_mul]
  have e3 : 2 ^ k * 2 ^ m = 2147483648 := by rw [← Nat.pow_add, show k + m = 31 from by omega]
  have e4 : x % 2 ^ k * 2 ^ (m + 1) = 2 * (x % 2 ^ k * 2 ^ m) := by rw [Nat.pow_succ, ← Nat.mul_assoc, Nat.mul_comm]
  have e5 : (x % 2 ^ k + 2 ^ k * (x / 2 ^ k % 2)) * 2 ^ m = x % 2 ^ k * 2 ^ m + 2147483648 * (x / 2 ^ k % 2) := by
    rw [Nat.add_mul, Nat.mul_right_comm, e3]
  rw [e1, e2, e4, e5]
  omega
theorem rotr_zero (x : Nat) (hx : x < 4294967296) : Sh.rotr x 0 = x := by
  rw [rotr_sum x 0 hx (by omega)]; simp [Nat.mod_one]

set_option maxHeartbeats 400000 in
theorem rword_any (n : Nat) (w : World) (hn : n < 9223372036854775808) :
    Calls Tryd.prog 28 #[.int .i64 (n : Int)] w fun e w' => e = .returned (.int .i64 ((n % 4294967296 : Nat) : Int)) ∧ w = w' := by
  have e : ((n % 4294967296 : Nat) : Int) = (n : Int) % 4294967296 := by omega
  go_enter Tryd.func28, Tryd.ntmps28
  go_wp2
  go_ret
  rw [e]
  exact ⟨rfl, rfl⟩

set_option maxHeartbeats 400000 in
theorem rshr_any (x n : Nat) (w : World) (hx : x < 9223372036854775808) (hn : n ≤ 64) :
    Calls Tryd.prog 24 #[.int .i64 (x : Int), .int .i64 (n : Int)] w fun e w' => e = .returned (.int .i64 ((x / 2 ^ n : Nat) : Int)) ∧ w = w' := by
  go_enter Tryd.func24, Tryd.ntmps24
  go_wp2_with fail
  go_loop [0, 5] (fun y i => ∃ k : Nat, k ≤ n ∧ i = .int .i64 k ∧ y = .int .i64 ((x / 2 ^ k : Nat) : Int)) (fun _ i => n - (intOf i).toNat)
  case atStart => exact ⟨0, by omega, rfl, by simp⟩
  case round =>
    obtain ⟨k, hk, rfl, rfl⟩ := hrel
    have hb : x / 2 ^ k ≤ x := Nat.div_le_self _ _
    have HS : Hid (x / 2 ^ (k + 1) = x / 2 ^ k / 2) := by show _ = _; rw [Nat.pow_succ, Nat.div_div_eq_div_mul]
    have HE : Hid (∀ m : Nat, m = n → ((x / 2 ^ m : Nat) : Int) = (x : Int) / 2 ^ n) := fun m h => by rw [h]; simp
    obtain ⟨y, hy⟩ : ∃ y, Hid (x / 2 ^ k = y) := ⟨_, rfl⟩
    rw [hy.out] at hb ⊢
    by_cases hlt : k < n
    · go_wp2
      go_round
      case rel => exact ⟨k + 1, by omega, by go_num, by rw [HS.out, hy.out]; go_num⟩
      case measure => simp [intOf]; omega
    · go_wp2
      go_ret
      refine ⟨?_, rfl⟩
      rw [← HE.out k (by omega), hy.out]
      rfl

set_option maxHeartbeats 400000 in
theorem rrot_any (x n : Nat) (w : World) (hx : x < 4294967296) (hn : n ≤ 32) :
    Calls Tryd.prog 27 #[.int .i64 (x : Int), .int .i64 (n : Int)] w fun e w' => e = .returned (.int .i64 ((Sh.rotr x n : Nat) : Int)) ∧ w = w' := by
  go_enter Tryd.func27, Tryd.ntmps27
  go_wp2_with fail
  go_loop [0, 5] (fun y i => ∃ k : Nat, k ≤ n ∧ i = .int .i64 k ∧ y = .int .i64 ((Sh.rotr x k : Nat) : Int)) (fun _ i => n - (intOf i).toNat)
  case atStart => exact ⟨0, by omega, rfl, by rw [rotr_zero x hx]⟩
  case round =>
    obtain ⟨k, hk, rfl, rfl⟩ := hrel
    have hb := Sh.rotr_lt x k hx
    have HS : Hid (k < 32 → Sh.rotr x (k + 1) = Sh.rotr x k / 2 + Sh.rotr x k % 2 * 2147483648) := fun h => rotr_step x k hx h
    have HE : Hid (∀ m : Nat, m = n → ((Sh.rotr x m : Nat) : Int) = ((Sh.rotr x n : Nat) : Int)) := fun m h => by rw [h]
    obtain ⟨y, hy⟩ : ∃ y, Hid (Sh.rotr x k = y) := ⟨_, rfl⟩
    rw [hy.out] at hb ⊢
    by_cases hlt : k < n
    · go_wp2
      go_round
      case rel => exact ⟨k + 1, by omega, by go_num, by rw [HS.out (by omega), hy.out]; go_num⟩
      case measure => simp [intOf]; omega
    · go_wp2
      go_ret
      refine ⟨?_, rfl⟩
      rw [← HE.out k (by omega), hy.out]
      rfl

end Go.Proofs.YtalknjokamfggaaDoor
