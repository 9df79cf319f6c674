/- AcctTells, AcctNil: the walks. -/
import Derived.Test.YtahbdhhofppdaaaC1
namespace Go.Proofs.Ytahbdhhofppdaaa
open Go.RowKit Go.Shelf Go.Maps Go.Sort

set_option maxRecDepth 100000 in
set_option maxHeartbeats 1000000 in
theorem tells_walk (a b j c f t s q n e : Int) (w : World)
    (K1 : ∀ V, Calls Try.prog 15 #[useV j c f t] V fun x w' => x = .returned (useV j c f t) ∧ Below V.heap.size V w')
    (K2 : ∀ V, Calls Try.prog 14 #[useV j c f t] V fun x w' => x = .returned (.tuple #[.int .i64 n, .int .i64 e]) ∧ Below V.heap.size V w')
    (K3 : ∀ V, Calls Try.prog 16 #[useV j c f t] V fun x w' => x = .returned (.tuple #[.int .i64 n, .int .i64 e]) ∧ Below V.heap.size V w')
    (K4 : ∀ V, Calls Try.prog 17 #[.int .i64 a, .int .i64 b] V fun x w' => x = .returned (.int .i64 s) ∧ V = w')
    (K5 : ∀ V, Calls Try.prog 18 #[.int .i64 a, .int .i64 b] V fun x w' => x = .returned (.int .i64 s) ∧ V = w')
    (K6 : ∀ V, Calls Try.prog 19 #[.int .i64 a, .int .i64 b] V fun x w' => x = .returned (.int .i64 q) ∧ V = w')
    (K7 : ∀ V, Calls Try.prog 20 #[.int .i64 a, .int .i64 b] V fun x w' => x = .returned (.int .i64 q) ∧ V = w') :
    Calls Try.prog 3 #[.int .i64 a, .int .i64 b, useV j c f t] w fun x w' => x = .returned (.bool true) ∧ Below w.heap.size w w' := by
  have kb := Bk.new w 23 #[.int .i64 j, .int .i64 c, .int .i64 f, .int .i64 t]
  have low := below_alloc w (.cells #[.int .i64 j, .int .i64 c, .int .i64 f, .int .i64 t] 23)
  go_enter Try.func3, Try.ntmps3
  go_wp2_with fail
  refine (K1 _).mono ?_
  rintro x w1 ⟨rfl, hb⟩
  replace kb := kb.next hb
  replace low := bmore low hb
  clear hb
  try clear c0 c1 c2 c3
  have c0 := kb.cell 0 _ rfl
  have c1 := kb.cell 1 _ rfl
  have c2 := kb.cell 2 _ rfl
  have c3 := kb.cell 3 _ rfl
  go_wp2_with fail
  refine (K2 _).mono ?_
  rintro x w1 ⟨rfl, hb⟩
  replace kb := kb.next hb
  replace low := bmore low hb
  clear hb
  try clear c0 c1 c2 c3
  have c0 := kb.cell 0 _ rfl
  have c1 := kb.cell 1 _ rfl
  have c2 := kb.cell 2 _ rfl
  have c3 := kb.cell 3 _ rfl
  go_wp2_with fail
  refine (K3 _).mono ?_
  rintro x w1 ⟨rfl, hb⟩
  replace kb := kb.next hb
  replace low := bmore low hb
  clear hb
  try clear c0 c1 c2 c3
  have c0 := kb.cell 0 _ rfl
  have c1 := kb.cell 1 _ rfl
  have c2 := kb.cell 2 _ rfl
  have c3 := kb.cell 3 _ rfl
  go_wp2_with fail
  refine (K4 _).mono ?_
  rintro x w1 ⟨rfl, rfl⟩
  go_wp2_with fail
  refine (K5 _).mono ?_
  rintro x w1 ⟨rfl, rfl⟩
  go_wp2_with fail
  refine (K6 _).mono ?_
  rintro x w1 ⟨rfl, rfl⟩
  go_wp2_with fail
  refine (K7 _).mono ?_
  rintro x w1 ⟨rfl, rfl⟩
  go_wp2_with fail
  refine (live_any _).mono ?_
  rintro x w1 ⟨rfl, hb⟩
  go_wp2_with fail
  go_ret
  exact ⟨rfl, bmore low hb⟩
theorem acctTells_any (a b : Int) (ha : wf a) (hb : wf b) (u : Us) (w : World) : Calls Try.prog 3 #[.int .i64 a, .int .i64 b, u.v] w fun x w' => x = .returned (.bool true) ∧ Below w.heap.size w w' :=
  tells_walk a b u.j u.c u.f u.t _ _ _ _ w (own_any u.j u.c u.f u.t) (of_any u.j u.c u.f u.t u.wc u.wr u.wt) (rof_any u.j u.c u.f u.t u.wc u.wr u.wt) (add_any a b ha hb) (radd_any a b ha hb) (times_any a b ha hb) (rtimes_any a b ha hb)
set_option maxRecDepth 100000 in
set_option maxHeartbeats 1000000 in
theorem acctNil_any (u : Us) (w : World) : Calls Try.prog 7 #[u.v] w fun x w' => x = .returned (.bool true) ∧ Below w.heap.size w w' := by
  have kb := Bk.new w 23 #[.int .i64 u.j, .int .i64 u.c, .int .i64 u.f, .int .i64 u.t]
  have low := below_alloc w (.cells #[.int .i64 u.j, .int .i64 u.c, .int .i64 u.f, .int .i64 u.t] 23)
  have K1 := Lib.hid (own_any u.j u.c u.f u.t)
  have K2 := Lib.hid (note_nil u)
  have K3 := Lib.hid (job_nil u.j)
  have K4 := Lib.hid all_nil
  go_enter Try.func7, Try.ntmps7
  go_wp2_with fail
  refine (K1.out _).mono ?_
  rintro x w1 ⟨rfl, hb⟩
  replace kb := kb.next hb
  replace low := bmore low hb
  clear hb
  try clear c0 c1 c2 c3
  have c0 := kb.cell 0 _ rfl
  have c1 := kb.cell 1 _ rfl
  have c2 := kb.cell 2 _ rfl
  have c3 := kb.cell 3 _ rfl
  go_wp2_with fail
  refine (K2.out _).mono ?_
  rintro x w1 ⟨rfl, hb⟩
  replace kb := kb.next hb
  replace low := bmore low hb
  clear hb
  try clear c0 c1 c2 c3
  have c0 := kb.cell 0 _ rfl
  have c1 := kb.cell 1 _ rfl
  have c2 := kb.cell 2 _ rfl
  have c3 := kb.cell 3 _ rfl
  go_wp2_with fail
  refine (K3.out _).mono ?_
  rintro x w1 ⟨rfl, rfl⟩
  go_wp2_with fail
  refine (K4.out _).mono ?_
  rintro x w1 ⟨rfl, hb⟩
  replace kb := kb.next hb
  replace low := bmore low hb
  clear hb
  try clear c0 c1 c2 c3
  have c0 := kb.cell 0 _ rfl
  have c1 := kb.cell 1 _ rfl
  have c2 := kb.cell 2 _ rfl
  have c3 := kb.cell 3 _ rfl
  go_wp2_with fail
  refine (jobs_nil _).mono ?_
  rintro x w1 ⟨v, rfl, hrow, hb⟩
  obtain ⟨A, cap, rfl⟩ := own_form hrow
  replace low := bmore low hb
  clear hb hrow
  go_wp2_with fail
  refine (live_any _).mono ?_
  rintro x w1 ⟨rfl, hb⟩
  go_wp2_with fail
  go_ret
  exact ⟨rfl, bmore low hb⟩
end Go.Proofs.Ytahbdhhofppdaaa
