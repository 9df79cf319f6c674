/- Nets: New, size, place, Lost; of none. -/
import Derived.Test.YtlhfijjjfolldaaA1
namespace Go.Proofs.Ytlhfijjjfolldaa
open Go.RowKit Go.Maps

set_option maxRecDepth 100000 in
theorem new_ok (m : Int) (w : World) (h1 : 1 ≤ m) (h2 : m ≤ 1000) :
    Calls Try.prog 10 #[.int .i64 m] w fun e w' => e = .returned (.pointer (some ⟨w.heap.size, 0, none⟩)) ∧ NtAt w' w.heap.size m (.slice none 0 0) [] 0 ∧ Below w.heap.size w w' := by
  have t0 : decide (m < 1) = false := decide_eq_false (by omega)
  have t1 : decide (1000 < m) = false := decide_eq_false (by omega)
  go_enter Try.func10, Try.ntmps10
  go_wp2_with fail
  go_ret
  exact ⟨rfl, ⟨Bk.new _ _ _, ⟨rfl, .inl ⟨rfl, rfl⟩⟩, by simp; omega, h1, h2⟩, below_alloc _ _⟩
set_option maxRecDepth 100000 in
theorem new_no (m : Int) (w : World) (h : m < 1 ∨ 1000 < m) :
    Calls Try.prog 10 #[.int .i64 m] w fun e w' => e = .returned (.pointer none) ∧ w = w' := by
  by_cases h1 : m < 1
  · have t0 : decide (m < 1) = true := decide_eq_true h1
    go_enter Try.func10, Try.ntmps10
    go_wp2_with fail
    go_ret
    exact ⟨rfl, rfl⟩
  · have t0 : decide (m < 1) = false := decide_eq_false h1
    have t1 : decide (1000 < m) = true := decide_eq_true (by omega)
    clear h
    go_enter Try.func10, Try.ntmps10
    go_wp2_with fail
    go_ret
    exact ⟨rfl, rfl⟩
set_option maxRecDepth 100000 in
theorem rnew_no (m : Int) (w : World) (h : m < 1 ∨ 1000 < m) :
    Calls Try.prog 11 #[.int .i64 m] w fun e w' => e = .returned (.pointer none) ∧ w = w' := by
  by_cases h1 : m < 1
  · have t0 : decide (m < 1) = true := decide_eq_true h1
    go_enter Try.func11, Try.ntmps11
    go_wp2_with fail
    go_ret
    exact ⟨rfl, rfl⟩
  · have t0 : decide (m < 1) = false := decide_eq_false h1
    have t1 : decide (1000 < m) = true := decide_eq_true (by omega)
    clear h
    go_enter Try.func11, Try.ntmps11
    go_wp2_with fail
    go_ret
    exact ⟨rfl, rfl⟩
set_option maxRecDepth 100000 in
theorem rnew_ok (m : Int) (w : World) (h1 : 1 ≤ m) (h2 : m ≤ 1000) :
    Calls Try.prog 11 #[.int .i64 m] w fun e w' => e = .returned (.pointer (some ⟨w.heap.size, 0, none⟩)) ∧ Bk w' w.heap.size 36 #[.int .i64 m, .slice none 0 0, .int .i64 0] ∧ Below w.heap.size w w' := by
  have t0 : decide (m < 1) = false := decide_eq_false (by omega)
  have t1 : decide (1000 < m) = false := decide_eq_false (by omega)
  go_enter Try.func11, Try.ntmps11
  go_wp2_with fail
  go_ret
  exact ⟨rfl, Bk.new _ _ _, below_alloc _ _⟩
set_option maxRecDepth 100000 in
theorem size_any {w : World} {p : Nat} {m k : Int} {v : Value} {l : List Str} (h : NtAt w p m v l k) :
    Calls Try.prog 26 #[.pointer (some ⟨p, 0, none⟩)] w fun e w' => e = .returned (.int .i64 (l.length : Int)) ∧ w = w' := by
  obtain ⟨A, cap, rfl⟩ := own_form h.row
  have c1 := h.blk.cell 1 _ rfl
  clear h
  go_enter Try.func26, Try.ntmps26
  go_wp2_with fail
  go_ret
  exact ⟨rfl, rfl⟩
set_option maxRecDepth 100000 in
theorem lost_any {w : World} {p : Nat} {m k : Int} {v : Value} {l : List Str} (h : NtAt w p m v l k) :
    Calls Try.prog 15 #[.pointer (some ⟨p, 0, none⟩)] w fun e w' => e = .returned (.int .i64 k) ∧ w = w' := by
  have c2 := h.blk.cell 2 _ rfl
  clear h
  go_enter Try.func15, Try.ntmps15
  go_wp2_with fail
  go_ret
  exact ⟨rfl, rfl⟩
set_option maxRecDepth 100000 in
theorem size_nil (w : World) : Calls Try.prog 26 #[.pointer none] w fun e w' => e = .returned (.int .i64 0) ∧ w = w' := by
  go_enter Try.func26, Try.ntmps26
  go_wp2_with fail
  go_ret
  exact ⟨rfl, rfl⟩
set_option maxRecDepth 100000 in
theorem lost_nil (w : World) : Calls Try.prog 15 #[.pointer none] w fun e w' => e = .returned (.int .i64 0) ∧ w = w' := by
  go_enter Try.func15, Try.ntmps15
  go_wp2_with fail
  go_ret
  exact ⟨rfl, rfl⟩
set_option maxRecDepth 100000 in
theorem list_nil (w : World) : Calls Try.prog 14 #[.pointer none] w fun e w' => e = .returned (.slice none 0 0) ∧ w = w' := by
  go_enter Try.func14, Try.ntmps14
  go_wp2_with fail
  go_ret
  exact ⟨rfl, rfl⟩
set_option maxRecDepth 100000 in
theorem send_nil (A : Option Addr) (n cap : Nat) (w : World) : Calls Try.prog 16 #[.pointer none, .slice A n cap] w fun e w' => e = .returned (.int .i64 0) ∧ w = w' := by
  go_enter Try.func16, Try.ntmps16
  go_wp2_with fail
  go_ret
  exact ⟨rfl, rfl⟩
set_option maxRecDepth 100000 in
theorem take_nil (i : Int) (w : World) : Calls Try.prog 17 #[.pointer none, .int .i64 i] w fun e w' => e = .returned (.tuple #[.string ⟨#[]⟩, .bool false]) ∧ w = w' := by
  go_enter Try.func17, Try.ntmps17
  go_wp2_with fail
  refine (size_nil _).mono ?_
  rintro _ w1 ⟨rfl, rfl⟩
  go_wp2_with fail
  go_ret2
  exact ⟨rfl, rfl⟩
set_option maxRecDepth 100000 in
theorem drop_nil (i : Int) (w : World) : Calls Try.prog 19 #[.pointer none, .int .i64 i] w fun e w' => e = .returned (.bool false) ∧ w = w' := by
  go_enter Try.func19, Try.ntmps19
  go_wp2_with fail
  refine (take_nil i _).mono ?_
  rintro _ w1 ⟨rfl, rfl⟩
  go_wp2_with fail
  go_ret
  exact ⟨rfl, rfl⟩
/-- The place of a number, where there are k. -/
theorem emod_of_tmod (i k : Int) (hk : 0 < k) : i % k = if Int.tmod i k < 0 then Int.tmod i k + k else Int.tmod i k := by
  by_cases hi : 0 ≤ i
  · rw [Int.tmod_eq_emod_of_nonneg hi]
    have := Int.emod_nonneg i (show k ≠ 0 by omega)
    rw [if_neg (by omega)]
  · have h1 : Int.tmod i k = -((-i) % k) := by
      have : i = -(-i) := by omega
      rw [this, Int.neg_tmod, Int.tmod_eq_emod_of_nonneg (by omega)]
      simp
    have h2 := Int.emod_nonneg (-i) (show k ≠ 0 by omega)
    have h3 := Int.emod_lt_of_pos (-i) hk
    have h4 := Int.emod_nonneg i (show k ≠ 0 by omega)
    have h5 := Int.emod_lt_of_pos i hk
    have d1 := Int.emod_add_mul_ediv i k
    have d2 := Int.emod_add_mul_ediv (-i) k
    have h6 : ∃ z, i % k + (-i) % k = k * z := ⟨-(i / k) - (-i / k), by
      rw [Int.mul_sub, Int.mul_neg]
      omega⟩
    obtain ⟨z, hz⟩ := h6
    have hz0 : z = 0 ∨ z = 1 := by
      have a : k * z < k * 2 := by omega
      have b : k * (-1) < k * z := by omega
      have := Int.lt_of_mul_lt_mul_left a (by omega)
      have := Int.lt_of_mul_lt_mul_left b (by omega)
      omega
    rw [h1]
    rcases hz0 with rfl | rfl
    · rw [if_neg (by omega)]
      omega
    · by_cases h0 : (-i) % k = 0
      · rw [h0, if_neg (by simp)]
        omega
      · rw [if_pos (by omega)]
        omega
set_option maxRecDepth 100000 in
theorem place_any (i : Int) (k : Nat) (hk : 0 < k) (hm : k ≤ 1000000) (w : World) :
    Calls Try.prog 28 #[.int .i64 i, .int .i64 (k : Int)] w fun e w' => e = .returned (.int .i64 (i % (k : Int))) ∧ w = w' := by
  have e := Lib.hid (emod_of_tmod i k (by omega))
  have k0 : (k : Int) ≠ 0 := by omega
  have hlo : -(k : Int) < Int.tmod i k := by
    have := Int.lt_tmod_of_pos i (show (0 : Int) < k by omega)
    omega
  have hhi : Int.tmod i k < k := Int.tmod_lt_of_pos i (by omega)
  go_enter Try.func28, Try.ntmps28
  go_wp2_with fail
  · go_ret
    exact ⟨by rw [e.out, if_pos (by omega)]; rfl, rfl⟩
  · go_ret
    exact ⟨by rw [e.out, if_neg (by omega)]; rfl, rfl⟩
end Go.Proofs.Ytlhfijjjfolldaa
