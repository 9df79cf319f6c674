/- AcctSplit: the walk. -/
import Derived.Test.YtahbdhhofppdaaaC1
namespace Go.Proofs.Ytahbdhhofppdaaa
open Go.RowKit Go.Shelf Go.Maps Go.Sort

theorem Bk.put {w : World} {g g' : Nat} {t : TypeId} {cs : Array Value} (h : Bk w g t cs) {i : Nat} {v : Value} (hne : g ≠ g') : Bk (w.setCell ⟨g', i, none⟩ v) g t cs := (heap_setCell_other w ⟨g', i, none⟩ g v hne).trans h
set_option maxRecDepth 100000 in
set_option maxHeartbeats 1000000 in
theorem split_no (j c f t n e at_ cores : Int) (w : World)
    (K0 : ∀ V, Calls Try.prog 15 #[useV j c f t] V fun x w' => x = .returned (useV j c f t) ∧ Below V.heap.size V w')
    (K1 : ∀ V, Calls Try.prog 14 #[useV j c f t] V fun x w' => x = .returned (.tuple #[.int .i64 n, .int .i64 e]) ∧ Below V.heap.size V w')
    (h : e = 1 ∨ (e = 0 ∧ (at_ < f ∨ (f ≤ at_ ∧ (t < at_ ∨ (at_ ≤ t ∧ (cores < 0 ∨ (0 ≤ cores ∧ c < cores)))))))) :
    Calls Try.prog 6 #[useV j c f t, .int .i64 at_, .int .i64 cores] w fun x w' => x = .returned (.bool true) ∧ Below w.heap.size w w' := by
  have kb := Bk.new w 23 #[.int .i64 j, .int .i64 c, .int .i64 f, .int .i64 t]
  have low := below_alloc w (.cells #[.int .i64 j, .int .i64 c, .int .i64 f, .int .i64 t] 23)
  have H := Lib.hid h
  clear h
  go_enter Try.func6, Try.ntmps6
  go_wp2_with fail
  refine (K0 _).mono ?_
  rintro x w1 ⟨rfl, hb⟩
  try clear kb0 kb1 kb2 kb3
  replace kb := kb.next hb
  replace low := bmore low hb
  clear hb
  have kb0 := kb.cell 0 _ rfl
  have kb1 := kb.cell 1 _ rfl
  have kb2 := kb.cell 2 _ rfl
  have kb3 := kb.cell 3 _ rfl
  go_wp2_with fail
  refine (K1 _).mono ?_
  rintro x w1 ⟨rfl, hb⟩
  try clear kb0 kb1 kb2 kb3
  replace kb := kb.next hb
  replace low := bmore low hb
  clear hb
  have kb0 := kb.cell 0 _ rfl
  have kb1 := kb.cell 1 _ rfl
  have kb2 := kb.cell 2 _ rfl
  have kb3 := kb.cell 3 _ rfl
  rcases H.out with rfl | ⟨rfl, g1 | ⟨g1, g2 | ⟨g2, g3 | ⟨g3, g4⟩⟩⟩⟩
  · clear H
    go_wp2_with fail
    refine (live_any _).mono ?_
    rintro x w1 ⟨rfl, hb⟩
    go_wp2_with fail
    go_ret
    exact ⟨rfl, bmore low hb⟩
  · clear H
    go_wp2_with fail
    refine (live_any _).mono ?_
    rintro x w1 ⟨rfl, hb⟩
    go_wp2_with fail
    go_ret
    exact ⟨rfl, bmore low hb⟩
  · clear H
    go_wp2_with fail
    refine (live_any _).mono ?_
    rintro x w1 ⟨rfl, hb⟩
    go_wp2_with fail
    go_ret
    exact ⟨rfl, bmore low hb⟩
  · clear H
    go_wp2_with fail
    refine (live_any _).mono ?_
    rintro x w1 ⟨rfl, hb⟩
    go_wp2_with fail
    go_ret
    exact ⟨rfl, bmore low hb⟩
  · clear H
    go_wp2_with fail
    refine (live_any _).mono ?_
    rintro x w1 ⟨rfl, hb⟩
    go_wp2_with fail
    go_ret
    exact ⟨rfl, bmore low hb⟩
set_option maxRecDepth 100000 in
set_option maxHeartbeats 2000000 in
theorem split_yes (j c f t n at_ cores c2 x y z u : Int) (w : World)
    (K0 : ∀ V, Calls Try.prog 15 #[useV j c f t] V fun x w' => x = .returned (useV j c f t) ∧ Below V.heap.size V w')
    (K1 : ∀ V, Calls Try.prog 14 #[useV j c f t] V fun x w' => x = .returned (.tuple #[.int .i64 n, .int .i64 0]) ∧ Below V.heap.size V w')
    (K2 : ∀ V, Calls Try.prog 14 #[useV j c f at_] V fun e w' => e = .returned (.tuple #[.int .i64 x, .int .i64 0]) ∧ Below V.heap.size V w')
    (K3 : ∀ V, Calls Try.prog 14 #[useV j c at_ t] V fun x w' => x = .returned (.tuple #[.int .i64 y, .int .i64 0]) ∧ Below V.heap.size V w')
    (K4 : ∀ V, Calls Try.prog 14 #[useV j cores f t] V fun x w' => x = .returned (.tuple #[.int .i64 z, .int .i64 0]) ∧ Below V.heap.size V w')
    (K5 : ∀ V, Calls Try.prog 14 #[useV j c2 f t] V fun x w' => x = .returned (.tuple #[.int .i64 u, .int .i64 0]) ∧ Below V.heap.size V w')
    (K6 : ∀ V, Calls Try.prog 17 #[.int .i64 x, .int .i64 y] V fun e w' => e = .returned (.int .i64 n) ∧ V = w')
    (K7 : ∀ V, Calls Try.prog 17 #[.int .i64 z, .int .i64 u] V fun e w' => e = .returned (.int .i64 n) ∧ V = w')
    (g1 : f ≤ at_) (g2 : at_ ≤ t) (g3 : 0 ≤ cores) (g4 : cores ≤ c) (ec : wrap64 (c - cores) = c2) :
    Calls Try.prog 6 #[useV j c f t, .int .i64 at_, .int .i64 cores] w fun x w' => x = .returned (.bool true) ∧ Below w.heap.size w w' := by
  have kb := Bk.new w 23 #[.int .i64 j, .int .i64 c, .int .i64 f, .int .i64 t]
  have low := below_alloc w (.cells #[.int .i64 j, .int .i64 c, .int .i64 f, .int .i64 t] 23)
  go_enter Try.func6, Try.ntmps6
  go_wp2_with fail
  refine (K0 _).mono ?_
  rintro x w1 ⟨rfl, hb⟩
  try clear kb0 kb1 kb2 kb3
  replace kb := kb.next hb
  replace low := bmore low hb
  clear hb
  have kb0 := kb.cell 0 _ rfl
  have kb1 := kb.cell 1 _ rfl
  have kb2 := kb.cell 2 _ rfl
  have kb3 := kb.cell 3 _ rfl
  go_wp2_with fail
  refine (K1 _).mono ?_
  rintro x w1 ⟨rfl, hb⟩
  try clear kb0 kb1 kb2 kb3
  replace kb := kb.next hb
  replace low := bmore low hb
  clear hb
  have kb0 := kb.cell 0 _ rfl
  have kb1 := kb.cell 1 _ rfl
  have kb2 := kb.cell 2 _ rfl
  have kb3 := kb.cell 3 _ rfl
  go_wp2_with fail
  refine (K0 _).mono ?_
  rintro x w1 ⟨rfl, hb⟩
  try clear kb0 kb1 kb2 kb3
  replace kb := kb.next hb
  replace low := bmore low hb
  clear hb
  have kb0 := kb.cell 0 _ rfl
  have kb1 := kb.cell 1 _ rfl
  have kb2 := kb.cell 2 _ rfl
  have kb3 := kb.cell 3 _ rfl
  try clear kb0 kb1 kb2 kb3
  have kA := Bk.new w1 27 #[.int .i64 j, .int .i64 c, .int .i64 f, .int .i64 t]
  have hA := kb.lt
  replace kb := kb.alloc (.cells #[.int .i64 j, .int .i64 c, .int .i64 f, .int .i64 t] 27)
  replace low := low.alloc low.size (.cells #[.int .i64 j, .int .i64 c, .int .i64 f, .int .i64 t] 27)
  have neA : w.heap.size ≠ w1.heap.size := by omega
  have kb0 := kb.cell 0 _ rfl
  have kb1 := kb.cell 1 _ rfl
  have kb2 := kb.cell 2 _ rfl
  have kb3 := kb.cell 3 _ rfl
  go_wp2_with fail
  refine (K0 _).mono ?_
  rintro e w2 ⟨rfl, hb⟩
  try clear kb0 kb1 kb2 kb3 kA0 kA1 kA2 kA3
  replace kb := kb.next hb
  replace kA := kA.next hb
  replace low := bmore low hb
  clear hb
  have a3 := kA.cell 3 _ rfl
  have f3 := kA.frozen 3
  have kB := Bk.new (w2.setCell ⟨w1.heap.size, 3, none⟩ (.int .i64 at_)) 27 #[.int .i64 j, .int .i64 c, .int .i64 at_, .int .i64 t]
  rw [show (w2.setCell ⟨w1.heap.size, 3, none⟩ (.int .i64 at_)).heap.size = w2.heap.size from by simp] at kB
  have hAl := kA.lt
  have hbl := kb.lt
  have neB : w.heap.size ≠ w2.heap.size := by omega
  have neAB : w1.heap.size ≠ w2.heap.size := by omega
  replace kb := (kb.put (i := 3) (v := .int .i64 at_) neA).alloc (.cells #[.int .i64 j, .int .i64 c, .int .i64 at_, .int .i64 t] 27)
  replace kA := (kA.set 3 (.int .i64 at_)).alloc (.cells #[.int .i64 j, .int .i64 c, .int .i64 at_, .int .i64 t] 27)
  replace low := ((low.setCell (p := ⟨w1.heap.size, 3, none⟩) (show w.heap.size ≤ w1.heap.size by omega) (.int .i64 at_)).alloc (by simpa using low.size) (.cells #[.int .i64 j, .int .i64 c, .int .i64 at_, .int .i64 t] 27))
  have kb0 := kb.cell 0 _ rfl
  have kb1 := kb.cell 1 _ rfl
  have kb2 := kb.cell 2 _ rfl
  have kb3 := kb.cell 3 _ rfl
  go_wp2_with fail
  clear a3 f3
  refine (K0 _).mono ?_
  rintro e w3 ⟨rfl, hb⟩
  try clear kb0 kb1 kb2 kb3 kA0 kA1 kA2 kA3 kB0 kB1 kB2 kB3
  replace kb := kb.next hb
  replace kA := kA.next hb
  replace kB := kB.next hb
  replace low := bmore low hb
  clear hb
  have kC := Bk.new w3 27 #[.int .i64 j, .int .i64 c, .int .i64 f, .int .i64 t]
  have hbl3 := kb.lt
  have hAl3 := kA.lt
  have hBl3 := kB.lt
  replace kb := kb.alloc (.cells #[.int .i64 j, .int .i64 c, .int .i64 f, .int .i64 t] 27)
  replace kA := kA.alloc (.cells #[.int .i64 j, .int .i64 c, .int .i64 f, .int .i64 t] 27)
  replace kB := kB.alloc (.cells #[.int .i64 j, .int .i64 c, .int .i64 f, .int .i64 t] 27)
  replace low := low.alloc low.size (.cells #[.int .i64 j, .int .i64 c, .int .i64 f, .int .i64 t] 27)
  have neC : w.heap.size ≠ w3.heap.size := by omega
  have neAC : w1.heap.size ≠ w3.heap.size := by omega
  have neBC : w2.heap.size ≠ w3.heap.size := by omega
  have kb0 := kb.cell 0 _ rfl
  have kb1 := kb.cell 1 _ rfl
  have kb2 := kb.cell 2 _ rfl
  have kb3 := kb.cell 3 _ rfl
  go_wp2_with fail
  refine (K0 _).mono ?_
  rintro e w4 ⟨rfl, hb⟩
  try clear kb0 kb1 kb2 kb3 kA0 kA1 kA2 kA3 kB0 kB1 kB2 kB3 kC0 kC1 kC2 kC3
  replace kb := kb.next hb
  replace kA := kA.next hb
  replace kB := kB.next hb
  replace kC := kC.next hb
  replace low := bmore low hb
  clear hb
  have b3 := kC.cell 1 _ rfl
  have f3 := kC.frozen 1
  have kD := Bk.new (w4.setCell ⟨w3.heap.size, 1, none⟩ (.int .i64 cores)) 27 #[.int .i64 j, .int .i64 c2, .int .i64 f, .int .i64 t]
  rw [show (w4.setCell ⟨w3.heap.size, 1, none⟩ (.int .i64 cores)).heap.size = w4.heap.size from by simp] at kD
  have hbl4 := kb.lt
  have hCl4 := kC.lt
  have kbP := ((kb.put (i := 1) (v := .int .i64 cores) neC).alloc (.cells #[.int .i64 j, .int .i64 c, .int .i64 f, .int .i64 t] 27)).cell 1 _ rfl
  replace kb := (kb.put (i := 1) (v := .int .i64 cores) neC).alloc (.cells #[.int .i64 j, .int .i64 c2, .int .i64 f, .int .i64 t] 27)
  replace kA := (kA.put (i := 1) (v := .int .i64 cores) neAC).alloc (.cells #[.int .i64 j, .int .i64 c2, .int .i64 f, .int .i64 t] 27)
  replace kB := (kB.put (i := 1) (v := .int .i64 cores) neBC).alloc (.cells #[.int .i64 j, .int .i64 c2, .int .i64 f, .int .i64 t] 27)
  replace kC := (kC.set 1 (.int .i64 cores)).alloc (.cells #[.int .i64 j, .int .i64 c2, .int .i64 f, .int .i64 t] 27)
  replace low := ((low.setCell (p := ⟨w3.heap.size, 1, none⟩) (show w.heap.size ≤ w3.heap.size by omega) (.int .i64 cores)).alloc (by simpa using low.size) (.cells #[.int .i64 j, .int .i64 c2, .int .i64 f, .int .i64 t] 27))
  have kb0 := kb.cell 0 _ rfl
  have kb1 := kb.cell 1 _ rfl
  have kb2 := kb.cell 2 _ rfl
  have kb3 := kb.cell 3 _ rfl
  have kA0 := kA.cell 0 _ rfl
  have kA1 := kA.cell 1 _ rfl
  have kA2 := kA.cell 2 _ rfl
  have kA3 := kA.cell 3 _ rfl
  go_wp2_with fail
  clear kb kb0 kb1 kb2 kb3 kbP b3 f3
  clear kA0 kA1 kA2 kA3
  refine (K2 _).mono ?_
  rintro e w5 ⟨rfl, hb⟩
  replace kB := kB.next hb
  replace kC := kC.next hb
  replace kD := kD.next hb
  replace low := bmore low hb
  clear hb
  have kB0 := kB.cell 0 _ rfl
  have kB1 := kB.cell 1 _ rfl
  have kB2 := kB.cell 2 _ rfl
  have kB3 := kB.cell 3 _ rfl
  go_wp2_with fail
  clear kB0 kB1 kB2 kB3
  refine (K3 _).mono ?_
  rintro e w6 ⟨rfl, hb⟩
  replace kC := kC.next hb
  replace kD := kD.next hb
  replace low := bmore low hb
  clear hb
  have kC0 := kC.cell 0 _ rfl
  have kC1 := kC.cell 1 _ rfl
  have kC2 := kC.cell 2 _ rfl
  have kC3 := kC.cell 3 _ rfl
  go_wp2_with fail
  clear kC0 kC1 kC2 kC3
  refine (K4 _).mono ?_
  rintro e w7 ⟨rfl, hb⟩
  replace kD := kD.next hb
  replace low := bmore low hb
  clear hb
  have kD0 := kD.cell 0 _ rfl
  have kD1 := kD.cell 1 _ rfl
  have kD2 := kD.cell 2 _ rfl
  have kD3 := kD.cell 3 _ rfl
  go_wp2_with fail
  clear kD0 kD1 kD2 kD3
  refine (K5 _).mono ?_
  rintro e w8 ⟨rfl, hb⟩
  replace low := bmore low hb
  clear hb
  go_wp2_with fail
  refine (K6 _).mono ?_
  rintro e w9 ⟨rfl, rfl⟩
  go_wp2_with fail
  refine (K7 _).mono ?_
  rintro e w9 ⟨rfl, rfl⟩
  go_wp2_with fail
  refine (live_any _).mono ?_
  rintro e w9 ⟨rfl, hb⟩
  go_wp2_with fail
  go_ret
  exact ⟨rfl, bmore low hb⟩
theorem split_ticks (c a b : Int) (hc : 0 ≤ c) (ha : 0 ≤ a) (hb : 0 ≤ b) : addE (timesE c a) (timesE c b) = timesE c (a + b) := by
  have h1 := Int.mul_nonneg hc ha
  have h2 := Int.mul_nonneg hc hb
  unfold addE timesE
  rw [Int.max_eq_left hc, Int.max_eq_left ha, Int.max_eq_left hb, Int.max_eq_left (show 0 ≤ a + b by omega), Int.mul_add]
  omega
theorem split_cores (c a t : Int) (ha : 0 ≤ a) (hc : a ≤ c) (ht : 0 ≤ t) : addE (timesE a t) (timesE (c - a) t) = timesE c t := by
  rw [times_comm a, times_comm (c - a), times_comm c, split_ticks _ _ _ ht ha (by omega), show a + (c - a) = c from by omega]
set_option maxRecDepth 100000 in
theorem acctSplit_any (u : Us) (at_ cores : Int) (ha : wf at_) (hk : wf cores) (w : World) : Calls Try.prog 6 #[u.v, .int .i64 at_, .int .i64 cores] w fun x w' => x = .returned (.bool true) ∧ Below w.heap.size w w' := by
  have K1 := of_any u.j u.c u.f u.t u.wc u.wr u.wt
  have c2 := (wf_iff.1 u.wc).2
  have f1 := wf_iff.1 u.wr
  have t1 := wf_iff.1 u.wt
  have a1 := wf_iff.1 ha
  by_cases hm : u.may = true
  · obtain ⟨h1, h2, h3, h4, h5⟩ := may_iff.1 hm
    rw [show ofE u.j u.c u.f u.t = 0 from by simp [ofE, hm]] at K1
    by_cases hg : u.f ≤ at_ ∧ at_ ≤ u.t ∧ 0 ≤ cores ∧ cores ≤ u.c
    · obtain ⟨g1, g2, g3, g4⟩ := hg
      have ofOk : ∀ c f t, 0 ≤ c → 0 ≤ f → f ≤ t → wf c → wf f → wf t → ∀ V, Calls Try.prog 14 #[useV u.j c f t] V fun x w' => x = .returned (.tuple #[.int .i64 (timesE c (t - f)), .int .i64 0]) ∧ Below V.heap.size V w' := fun c f t p1 p2 p3 q1 q2 q3 => by
        have e : mayB u.j c f t = true := may_iff.2 ⟨h1, h2, p1, p2, p3⟩
        have := of_any u.j c f t q1 q2 q3
        rw [show ofE u.j c f t = 0 from by simp [ofE, e], show ofN u.j c f t = timesE c (t - f) from by simp [ofN, e]] at this
        exact this
      have w2 : wf (u.c - cores) := wf_iff.2 (by omega)
      have en : ofN u.j u.c u.f u.t = timesE u.c (u.t - u.f) := by simp [ofN, show mayB u.j u.c u.f u.t = true from hm]
      rw [en] at K1
      refine split_yes u.j u.c u.f u.t _ at_ cores (u.c - cores) _ _ _ _ w (own_any u.j u.c u.f u.t) K1 (ofOk u.c u.f at_ h3 h4 g1 u.wc u.wr ha) (ofOk u.c at_ u.t h3 (by omega) g2 u.wc ha u.wt) (ofOk cores u.f u.t g3 h4 h5 hk u.wr u.wt) (ofOk (u.c - cores) u.f u.t (by omega) h4 h5 w2 u.wr u.wt) ?_ ?_ g1 g2 g3 g4 (IntWalk.wrap64_in _ (by omega))
      · intro V
        have := add_any (timesE u.c (at_ - u.f)) (timesE u.c (u.t - at_)) (wf_of (timesE_wf _ _)) (wf_of (timesE_wf _ _)) V
        rw [split_ticks _ _ _ h3 (by omega) (by omega), show at_ - u.f + (u.t - at_) = u.t - u.f from by omega] at this
        exact this
      · intro V
        have := add_any (timesE cores (u.t - u.f)) (timesE (u.c - cores) (u.t - u.f)) (wf_of (timesE_wf _ _)) (wf_of (timesE_wf _ _)) V
        rw [split_cores u.c cores (u.t - u.f) g3 g4 (by omega)] at this
        exact this
    · exact split_no u.j u.c u.f u.t _ _ at_ cores w (own_any u.j u.c u.f u.t) K1 (.inr ⟨rfl, by omega⟩)
  · rw [show ofE u.j u.c u.f u.t = 1 from by simp [ofE, show mayB u.j u.c u.f u.t = false from by simpa using hm]] at K1
    exact split_no u.j u.c u.f u.t _ _ at_ cores w (own_any u.j u.c u.f u.t) K1 (.inl rfl)
end Go.Proofs.Ytahbdhhofppdaaa
