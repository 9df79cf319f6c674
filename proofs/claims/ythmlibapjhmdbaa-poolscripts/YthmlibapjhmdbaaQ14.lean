/- A pool: what live asks of cores and masks. -/
import Derived.Test.YthmlibapjhmdbaaQ13
namespace Go.Proofs.Ythmlibapjhmdbaa
open Go.RowKit Go.Shelf Go.Maps

theorem dist14 : IsDist 0 84 1 4 id := .inl ⟨rfl, rfl, rfl⟩
theorem rk14 : ranks (wished [15, 0, 0, 0] id 4 3) 1 3 = [[7, 0, 0, 0]] := by decide
theorem few14 : (fr [8, 0, 0, 0] (upto id 4)).length < 2 * 1 := by decide
theorem enough14 : 1 * 3 ≤ (fr [15, 0, 0, 0] (upto id 4)).length := by decide
theorem assign7 (V : World) : Calls Try.prog 46 #[.agg #[.int .i64 1, .int .i64 4], .agg #[.int .u64 15, .int .u64 0, .int .u64 0, .int .u64 0, .int .i64 1, .int .i64 3, .int .i64 0]] V fun e w' => ∃ gm, e = .returned (.tuple #[.slice (some ⟨gm, 0, none⟩) 1 1, .int .i64 0]) ∧ V.heap.size ≤ gm ∧ Row .u64 40 w' gm [7, 0, 0, 0] ∧ Below V.heap.size V w' := by
  refine (assign_ok dist14 1 3 15 0 0 0 V lok14 ⟨by decide, by decide, by decide, by decide⟩ (W4_small (by decide)) enough14).mono ?_
  rintro e w' ⟨g, rfl, hg, hr, hb⟩
  rw [show ranks (wished [15, 0, 0, 0] id (1 * 4) (1 * 3)) 1 3 = [[7, 0, 0, 0]] from rk14] at hr
  exact ⟨g, rfl, hg, hr, hb⟩
theorem assign8 (V : World) : Calls Try.prog 46 #[.agg #[.int .i64 1, .int .i64 4], .agg #[.int .u64 8, .int .u64 0, .int .u64 0, .int .u64 0, .int .i64 2, .int .i64 1, .int .i64 0]] V fun e w' => e = .returned (.tuple #[.slice none 0 0, .int .i64 12]) ∧ Below V.heap.size V w' :=
  assign_few dist14 2 1 8 0 0 0 V lok14 ⟨by decide, by decide, by decide, by decide⟩ (W4_small (by decide)) few14
theorem union7 (V : World) (gm : Nat) (h : Row .u64 40 V gm [7, 0, 0, 0]) : Calls Try.prog 47 #[.slice (some ⟨gm, 0, none⟩) 1 1] V fun e w' => e = .returned (.agg #[.int .u64 7, .int .u64 0, .int .u64 0, .int .u64 0]) ∧ Below V.heap.size V w' := by
  have hw : Mk.W4 [7, 0, 0, 0] := W4_small (by decide)
  have hr : Row .u64 40 V gm ([[7, 0, 0, 0]] : List (List Nat)).flatten := h
  have := union_any gm 1 1 [[7, 0, 0, 0]] V (masks_row hr (fun m hm => by simp at hm; rw [hm]; rfl)) (fun m hm => by simp at hm; rw [hm]; exact hw) rfl (by decide)
  rw [show orAll [[7, 0, 0, 0]] = [7, 0, 0, 0] by decide, vs1] at this
  exact this
theorem minus12 (V : World) : Calls Try.prog 24 #[.agg #[.int .u64 12, .int .u64 0, .int .u64 0, .int .u64 0], .agg #[.int .u64 8, .int .u64 0, .int .u64 0, .int .u64 0]] V fun e w' => e = .returned (.agg #[.int .u64 4, .int .u64 0, .int .u64 0, .int .u64 0]) ∧ Below V.heap.size V w' := by
  have := minus_any [12, 0, 0, 0] [8, 0, 0, 0] V (W4_small (by decide)) (W4_small (by decide))
  rw [show zw andN [12, 0, 0, 0] [8, 0, 0, 0] = [4, 0, 0, 0] by decide, vs1, vs1, vs1] at this
  exact this
theorem minus8 (V : World) : Calls Try.prog 24 #[.agg #[.int .u64 8, .int .u64 0, .int .u64 0, .int .u64 0], .agg #[.int .u64 8, .int .u64 0, .int .u64 0, .int .u64 0]] V fun e w' => e = .returned (.agg #[.int .u64 0, .int .u64 0, .int .u64 0, .int .u64 0]) ∧ Below V.heap.size V w' := by
  have := minus_any [8, 0, 0, 0] [8, 0, 0, 0] V (W4_small (by decide)) (W4_small (by decide))
  rw [show zw andN [8, 0, 0, 0] [8, 0, 0, 0] = [0, 0, 0, 0] by decide, vs1, vs1] at this
  exact this
theorem empty_no {n : Nat} (hn : n ≠ 0) (V : World) : Calls Try.prog 48 #[.agg #[.int .u64 n, .int .u64 0, .int .u64 0, .int .u64 0]] V fun e w' => e = .returned (.bool false) ∧ Below V.heap.size V w' := by
  have := isEmpty_any n 0 0 0 V
  rw [show ((n : Int) == 0 && ((0 : Nat) : Int) == 0 && ((0 : Nat) : Int) == 0 && ((0 : Nat) : Int) == 0) = false by
    rw [show ((n : Int) == 0) = false by simpa using hn]; rfl] at this
  exact this
theorem empty_yes (V : World) : Calls Try.prog 48 #[.agg #[.int .u64 0, .int .u64 0, .int .u64 0, .int .u64 0]] V fun e w' => e = .returned (.bool true) ∧ Below V.heap.size V w' :=
  isEmpty_any 0 0 0 0 V
end Go.Proofs.Ythmlibapjhmdbaa
