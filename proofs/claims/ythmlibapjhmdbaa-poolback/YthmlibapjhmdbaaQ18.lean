/- The pool that is none; PoolNil. -/
import Derived.Test.YthmlibapjhmdbaaGQ15xQ16xQ17
namespace Go.Proofs.Ythmlibapjhmdbaa
open Go.RowKit Go.Shelf Go.Maps Go.Sort
attribute [local go_sem] eq33 eq40

set_option maxRecDepth 100000 in
theorem free_nil (V : World) : Calls Try.prog 13 #[.pointer none] V fun e w' => e = .returned (.agg #[.int .u64 0, .int .u64 0, .int .u64 0, .int .u64 0]) ∧ Below V.heap.size V w' := by
  go_enter Try.func13, Try.ntmps13
  go_wp2_with fail
  exact bodyPost_ret (results_row rfl _ _ V.heap.size .u64 40 Mk.zero _ rfl (Row.new V .u64 40 Mk.zero _ rfl) Try.underlying40 rfl (info33' Mk.W4.zero)) rfl ⟨rfl, (Below.refl _ V).alloc (Nat.le_refl _) _⟩
set_option maxRecDepth 100000 in
theorem commit_nil (n : Int) (V : World) : Calls Try.prog 28 #[.pointer none, .int .i64 n] V fun e w' => e = .returned (.int .i64 1) ∧ Below V.heap.size V w' := by
  go_enter Try.func28, Try.ntmps28
  go_wp2_with fail
  go_ret
  exact ⟨rfl, Below.refl _ _⟩
set_option maxRecDepth 100000 in
theorem release_nil (n : Int) (V : World) : Calls Try.prog 25 #[.pointer none, .int .i64 n] V fun e w' => e = .returned (.int .i64 1) ∧ Below V.heap.size V w' := by
  go_enter Try.func25, Try.ntmps25
  go_wp2_with fail
  go_ret
  exact ⟨rfl, Below.refl _ _⟩
set_option maxRecDepth 100000 in
theorem owners_nil (V : World) : Calls Try.prog 16 #[.pointer none] V fun e w' => e = .returned (.slice none 0 0) ∧ Below V.heap.size V w' := by
  go_enter Try.func16, Try.ntmps16
  go_wp2_with fail
  go_ret
  exact ⟨rfl, Below.refl _ _⟩
set_option maxRecDepth 100000 in
theorem of_nil (n : Int) (V : World) : Calls Try.prog 18 #[.pointer none, .int .i64 n] V fun e w' => e = .returned (.tuple #[.agg #[.int .u64 0, .int .u64 0, .int .u64 0, .int .u64 0], .bool false]) ∧ Below V.heap.size V w' := by
  go_enter Try.func18, Try.ntmps18
  go_wp2_with fail
  exact bodyPost_ret (v := .tuple #[.agg #[.int .u64 0, .int .u64 0, .int .u64 0, .int .u64 0], .bool false]) (by simp [results, Try.results18, go_sem]) rfl ⟨rfl, (Below.refl _ V).alloc (Nat.le_refl _) _⟩
set_option maxRecDepth 100000 in
set_option maxHeartbeats 1000000 in
theorem reserve_nil (n : Int) (x0 x1 x2 x3 : Nat) (r pe d : Int) (V : World) : Calls Try.prog 26 #[.pointer none, .int .i64 n, .agg #[.int .u64 x0, .int .u64 x1, .int .u64 x2, .int .u64 x3, .int .i64 r, .int .i64 pe, .int .i64 d]] V fun e w' => e = .returned (.tuple #[.slice none 0 0, .int .i64 1]) ∧ Below V.heap.size V w' := by
  go_enter Try.func26, Try.ntmps26
  go_wp2_with fail
  exact bodyPost_ret (v := .tuple #[.slice none 0 0, .int .i64 1]) (by simp [results, Try.results26, go_sem]) rfl ⟨rfl, (Below.refl _ V).alloc (Nat.le_refl _) _⟩
set_option maxRecDepth 100000 in
set_option maxHeartbeats 1000000 in
theorem take_nil (n : Int) (a0 a1 a2 a3 : Int) (V : World) : Calls Try.prog 27 #[.pointer none, .int .i64 n, .agg #[.int .u64 a0, .int .u64 a1, .int .u64 a2, .int .u64 a3]] V fun e w' => e = .returned (.int .i64 1) ∧ Below V.heap.size V w' := by
  go_enter Try.func27, Try.ntmps27
  go_wp2_with fail
  go_ret
  exact ⟨rfl, (Below.refl _ V).alloc (Nat.le_refl _) _⟩
set_option maxRecDepth 100000 in
set_option maxHeartbeats 2000000 in
theorem poolNil_any (n a b c d : Int) (w : World) : Calls Try.prog 6 #[.int .i64 n, .agg #[.int .u64 a, .int .u64 b, .int .u64 c, .int .u64 d]] w fun e w' => e = .returned (.bool true) ∧ Below w.heap.size w w' := by
  go_enter Try.func6, Try.ntmps6
  go_wp2_with fail
  have jm := Bk.new w 35 #[.int .u64 a, .int .u64 b, .int .u64 c, .int .u64 d]
  have hb := (Below.refl _ w).alloc (Nat.le_refl _) (.cells #[.int .u64 a, .int .u64 b, .int .u64 c, .int .u64 d] 35)
  refine (reserve_nil n 0 0 0 0 1 1 0 _).mono ?_
  rintro e w1 ⟨rfl, hn⟩
  replace hb := bmore hb hn
  replace jm := jm.next hn
  clear hn
  go_wp2_with fail
  refine (of_nil n _).mono ?_
  rintro e w2 ⟨rfl, hn⟩
  replace hb := bmore hb hn
  replace jm := jm.next hn
  clear hn
  go_wp2_with fail
  have ja := Bk.new w2 40 #[.int .u64 0, .int .u64 0, .int .u64 0, .int .u64 0]
  have hn := (Below.refl _ w2).alloc (Nat.le_refl _) (.cells #[.int .u64 0, .int .u64 0, .int .u64 0, .int .u64 0] 40)
  replace hb := bmore hb hn
  replace jm := jm.next hn
  clear hn
  refine (free_nil _).mono ?_
  rintro e w3 ⟨rfl, hn⟩
  replace hb := bmore hb hn
  replace jm := jm.next hn
  replace ja := ja.next hn
  clear hn
  have m0 := jm.cell 0 _ rfl
  have m1 := jm.cell 1 _ rfl
  have m2 := jm.cell 2 _ rfl
  have m3 := jm.cell 3 _ rfl
  go_wp2_with fail
  clear m0 m1 m2 m3
  refine (take_nil n a b c d _).mono ?_
  rintro e w4 ⟨rfl, hn⟩
  replace hb := bmore hb hn
  replace ja := ja.next hn
  clear hn
  go_wp2_with fail
  refine (commit_nil n _).mono ?_
  rintro e w5 ⟨rfl, hn⟩
  replace hb := bmore hb hn
  replace ja := ja.next hn
  clear hn
  go_wp2_with fail
  refine (release_nil n _).mono ?_
  rintro e w6 ⟨rfl, hn⟩
  replace hb := bmore hb hn
  replace ja := ja.next hn
  clear hn
  have a0 := ja.cell 0 _ rfl
  have a1 := ja.cell 1 _ rfl
  have a2 := ja.cell 2 _ rfl
  have a3 := ja.cell 3 _ rfl
  go_wp2_with fail
  clear a0 a1 a2 a3
  refine (owners_nil _).mono ?_
  rintro e w7 ⟨rfl, hn⟩
  replace hb := bmore hb hn
  clear hn
  go_wp2_with fail
  refine (live_any _).mono ?_
  rintro e w8 ⟨rfl, hn⟩
  replace hb := bmore hb hn
  clear hn
  go_wp2_with fail
  go_ret
  exact ⟨rfl, hb⟩
end Go.Proofs.Ythmlibapjhmdbaa
