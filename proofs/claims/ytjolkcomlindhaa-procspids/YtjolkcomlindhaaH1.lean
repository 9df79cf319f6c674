/- A table that is none; ProcsNil, walked. -/
import Derived.Test.YtjolkcomlindhaaG12
namespace Go.Proofs.Ytjolkcomlindhaa
open Go.RowKit Go.Shelf Go.Maps Go.Sort

set_option maxRecDepth 100000 in
set_option maxHeartbeats 1000000 in
theorem find_nilv (n : Value) (w : World) : Calls Try.prog 58 #[.pointer none, n] w fun e w' => e = .returned (.pointer none) ∧ w = w' := by
  go_enter Try.func58, Try.ntmps58
  go_wp2_with fail
  go_ret
  exact ⟨rfl, rfl⟩
set_option maxRecDepth 100000 in
set_option maxHeartbeats 1000000 in
theorem spawn_nil (a b c d e f g h : Value) (w : World) : Calls Try.prog 37 #[.pointer none, .agg #[a, b, c, d, e, f, g, h]] w fun x w' => x = .returned (.tuple #[.int .i64 0, .int .i64 1]) ∧ Below w.heap.size w w' := by
  have low := below_alloc w (.cells #[a, b, c, d, e, f, g, h] 61)
  go_enter Try.func37, Try.ntmps37
  go_wp2_with fail
  go_ret2
  exact ⟨rfl, low⟩
set_option maxRecDepth 100000 in
set_option maxHeartbeats 1000000 in
theorem release_nil (n : Value) (w : World) : Calls Try.prog 40 #[.pointer none, n] w fun x w' => x = .returned (.int .i64 1) ∧ w = w' := by
  go_enter Try.func40, Try.ntmps40
  go_wp2_with fail
  refine (find_nilv n _).mono ?_
  rintro x w1 ⟨rfl, rfl⟩
  go_wp2_with fail
  go_ret
  exact ⟨rfl, rfl⟩
set_option maxRecDepth 100000 in
set_option maxHeartbeats 1000000 in
theorem signal_nil (n : Value) (w : World) : Calls Try.prog 41 #[.pointer none, n, .int .i64 9] w fun x w' => x = .returned (.int .i64 1) ∧ w = w' := by
  go_enter Try.func41, Try.ntmps41
  go_wp2_with fail
  refine (find_nilv n _).mono ?_
  rintro x w1 ⟨rfl, rfl⟩
  go_wp2_with fail
  go_ret
  exact ⟨rfl, rfl⟩
set_option maxRecDepth 100000 in
set_option maxHeartbeats 1000000 in
theorem exit_nil (n : Value) (w : World) : Calls Try.prog 42 #[.pointer none, n, .int .i64 0] w fun x w' => x = .returned (.int .i64 1) ∧ w = w' := by
  go_enter Try.func42, Try.ntmps42
  go_wp2_with fail
  refine (find_nilv n _).mono ?_
  rintro x w1 ⟨rfl, rfl⟩
  go_wp2_with fail
  go_ret
  exact ⟨rfl, rfl⟩
set_option maxRecDepth 100000 in
set_option maxHeartbeats 1000000 in
theorem signalled_nil (n : Value) (w : World) : Calls Try.prog 43 #[.pointer none, n] w fun x w' => x = .returned (.int .i64 0) ∧ w = w' := by
  go_enter Try.func43, Try.ntmps43
  go_wp2_with fail
  refine (find_nilv n _).mono ?_
  rintro x w1 ⟨rfl, rfl⟩
  go_wp2_with fail
  go_ret
  exact ⟨rfl, rfl⟩
set_option maxRecDepth 100000 in
set_option maxHeartbeats 1000000 in
theorem copy_nil (w : World) : Calls Try.prog 44 #[.pointer none] w fun x w' => x = .returned (.pointer none) ∧ w = w' := by
  go_enter Try.func44, Try.ntmps44
  go_wp2_with fail
  go_ret
  exact ⟨rfl, rfl⟩
set_option maxRecDepth 100000 in
set_option maxHeartbeats 1000000 in
theorem reap_nil (n : Value) (w : World) : Calls Try.prog 39 #[.pointer none, n] w fun x w' => x = .returned (.tuple #[tkV 0 0 0 0 0 (.slice none 0 0) 0 0, .int .i64 1]) ∧ Below w.heap.size w w' := by
  have kz0 := Bk.new w 61 (tkC 0 0 0 0 0 (.slice none 0 0) 0 0)
  have la := below_alloc w (.cells (tkC 0 0 0 0 0 (.slice none 0 0) 0 0) 61)
  obtain ⟨⟨d0, d1, d2, d3, d4, d5, d6, d7⟩, f0, f1, f2, f3, f4, f5, f6, f7⟩ := kz0.z8
  clear kz0
  go_enter Try.func39, Try.ntmps39
  go_wp2_with fail
  refine (find_nilv n _).mono ?_
  rintro x w1 ⟨rfl, rfl⟩
  go_wp2_with fail
  exact bodyPost_ret (v := .tuple #[tkV 0 0 0 0 0 (.slice none 0 0) 0 0, .int .i64 1]) (by simp [results, Try.results39, go_sem, d0, d1, d2, d3, d4, d5, d6, d7]) rfl ⟨rfl, la⟩
set_option maxRecDepth 100000 in
set_option maxHeartbeats 1000000 in
theorem one_zero (w : World) : Calls Try.prog 38 #[tkV 0 0 0 0 0 (.slice none 0 0) 0 0, tkV 0 0 0 0 0 (.slice none 0 0) 0 0] w fun x w' => x = .returned (.bool true) ∧ Below w.heap.size w w' := by
  have low := (below_alloc w (.cells (tkC 0 0 0 0 0 (.slice none 0 0) 0 0) 61)).alloc (by simp) (.cells (tkC 0 0 0 0 0 (.slice none 0 0) 0 0) 61)
  have KS := Lib.hid (same_eq none none 0 0 0 [] ((w.alloc (.cells (tkC 0 0 0 0 0 (.slice none 0 0) 0 0) 61)).alloc (.cells (tkC 0 0 0 0 0 (.slice none 0 0) 0 0) 61)) (.inl rfl) (.inl rfl) rfl (by unfold maxLen; omega))
  go_enter Try.func38, Try.ntmps38
  go_wp2_with fail
  refine KS.out.mono ?_
  rintro x w1 ⟨rfl, hb⟩
  go_wp2_with fail
  go_ret
  exact ⟨rfl, bmore low hb⟩
set_option maxRecDepth 100000 in
set_option maxHeartbeats 1000000 in
theorem procsNil_any (c0 c1 c2 c3 c4 c5 c6 c7 c8 c9 c10 : Value) (w : World) : Calls Try.prog 11 #[.agg #[c0, c1, c2, c3, c4, c5, c6, c7, c8, c9, c10]] w fun x w' => x = .returned (.bool true) ∧ Below w.heap.size w w' := by
  have kb := Bk.new w 63 #[c0, c1, c2, c3, c4, c5, c6, c7, c8, c9, c10]
  have low := below_alloc w (.cells #[c0, c1, c2, c3, c4, c5, c6, c7, c8, c9, c10] 63)
  go_enter Try.func11, Try.ntmps11
  have b0 := kb.cell 0 _ rfl
  have b1 := kb.cell 1 _ rfl
  have b2 := kb.cell 2 _ rfl
  have b3 := kb.cell 3 _ rfl
  have b4 := kb.cell 4 _ rfl
  have b5 := kb.cell 5 _ rfl
  have b6 := kb.cell 6 _ rfl
  have b7 := kb.cell 7 _ rfl
  have b8 := kb.cell 8 _ rfl
  have b9 := kb.cell 9 _ rfl
  have b10 := kb.cell 10 _ rfl
  go_wp2_with fail
  refine (spawn_nil _ _ _ _ _ _ _ _ _).mono ?_
  rintro x w1 ⟨rfl, hb⟩
  replace kb := kb.next hb
  replace low := bmore low hb
  clear hb
  clear b0 b1 b2 b3 b4 b5 b6 b7 b8 b9 b10
  have b0 := kb.cell 0 _ rfl
  have b1 := kb.cell 1 _ rfl
  have b2 := kb.cell 2 _ rfl
  have b3 := kb.cell 3 _ rfl
  have b4 := kb.cell 4 _ rfl
  have b5 := kb.cell 5 _ rfl
  have b6 := kb.cell 6 _ rfl
  have b7 := kb.cell 7 _ rfl
  have b8 := kb.cell 8 _ rfl
  have b9 := kb.cell 9 _ rfl
  have b10 := kb.cell 10 _ rfl
  go_wp2_with fail
  refine (reap_nil _ _).mono ?_
  rintro x w1 ⟨rfl, hb⟩
  replace kb := kb.next hb
  replace low := bmore low hb
  clear hb
  clear b0 b1 b2 b3 b4 b5 b6 b7 b8 b9 b10
  have kx := Bk.new w1 61 (tkC 0 0 0 0 0 (.slice none 0 0) 0 0)
  have lx := below_alloc w1 (.cells (tkC 0 0 0 0 0 (.slice none 0 0) 0 0) 61)
  replace kb := kb.next lx
  replace low := bmore low lx
  clear lx
  obtain ⟨⟨x0, x1, x2, x3, x4, x5, x6, x7⟩, -⟩ := kx.z8
  have b0 := kb.cell 0 _ rfl
  have b1 := kb.cell 1 _ rfl
  have b2 := kb.cell 2 _ rfl
  have b3 := kb.cell 3 _ rfl
  have b4 := kb.cell 4 _ rfl
  have b5 := kb.cell 5 _ rfl
  have b6 := kb.cell 6 _ rfl
  have b7 := kb.cell 7 _ rfl
  have b8 := kb.cell 8 _ rfl
  have b9 := kb.cell 9 _ rfl
  have b10 := kb.cell 10 _ rfl
  go_wp2_with fail
  refine (one_zero _).mono ?_
  rintro x w2 ⟨rfl, hb⟩
  replace kb := kb.next hb
  replace low := bmore low hb
  clear hb
  clear b0 b1 b2 b3 b4 b5 b6 b7 b8 b9 b10
  clear x0 x1 x2 x3 x4 x5 x6 x7 kx
  have b0 := kb.cell 0 _ rfl
  have b1 := kb.cell 1 _ rfl
  have b2 := kb.cell 2 _ rfl
  have b3 := kb.cell 3 _ rfl
  have b4 := kb.cell 4 _ rfl
  have b5 := kb.cell 5 _ rfl
  have b6 := kb.cell 6 _ rfl
  have b7 := kb.cell 7 _ rfl
  have b8 := kb.cell 8 _ rfl
  have b9 := kb.cell 9 _ rfl
  have b10 := kb.cell 10 _ rfl
  go_wp2_with fail
  refine (release_nil _ _).mono ?_
  rintro x w3 ⟨rfl, rfl⟩
  go_wp2_with fail
  refine (signal_nil _ _).mono ?_
  rintro x w3 ⟨rfl, rfl⟩
  go_wp2_with fail
  refine (exit_nil _ _).mono ?_
  rintro x w3 ⟨rfl, rfl⟩
  go_wp2_with fail
  refine (list_nil _).mono ?_
  rintro x w3 ⟨rfl, rfl⟩
  go_wp2_with fail
  refine (signalled_nil _ _).mono ?_
  rintro x w3 ⟨rfl, rfl⟩
  go_wp2_with fail
  refine (copy_nil _).mono ?_
  rintro x w3 ⟨rfl, rfl⟩
  go_wp2_with fail
  refine (plive_any _).mono ?_
  rintro x w3 ⟨rfl, hb⟩
  go_wp2_with fail
  go_ret
  exact ⟨rfl, bmore low hb⟩
end Go.Proofs.Ytjolkcomlindhaa
