/- AcctMost, AcctTells, AcctSplit, AcctNil: the walks. -/
import Derived.Test.YtahbdhhofppdaaaB6
namespace Go.Proofs.Ytahbdhhofppdaaa
open Go.RowKit Go.Shelf Go.Maps Go.Sort

set_option maxRecDepth 100000 in
set_option maxHeartbeats 1000000 in
theorem most_walk (a b c s p q r mx : Int) (w : World) (K1 : ∀ V, Calls Try.prog 17 #[.int .i64 a, .int .i64 b] V fun x w' => x = .returned (.int .i64 s) ∧ V = w') (K2 : ∀ V, Calls Try.prog 19 #[.int .i64 a, .int .i64 b] V fun x w' => x = .returned (.int .i64 p) ∧ V = w') (K3 : ∀ V, Calls Try.prog 17 #[.int .i64 b, .int .i64 a] V fun x w' => x = .returned (.int .i64 s) ∧ V = w') (K4 : ∀ V, Calls Try.prog 19 #[.int .i64 b, .int .i64 a] V fun x w' => x = .returned (.int .i64 p) ∧ V = w') (K5 : ∀ V, Calls Try.prog 17 #[.int .i64 s, .int .i64 c] V fun x w' => x = .returned (.int .i64 q) ∧ V = w') (K6 : ∀ V, Calls Try.prog 17 #[.int .i64 b, .int .i64 c] V fun x w' => x = .returned (.int .i64 r) ∧ V = w') (K7 : ∀ V, Calls Try.prog 17 #[.int .i64 a, .int .i64 r] V fun x w' => x = .returned (.int .i64 q) ∧ V = w') (K8 : ∀ V, Calls Try.prog 19 #[.int .i64 a, .int .i64 1] V fun x w' => x = .returned (.int .i64 mx) ∧ V = w') (K9 : ∀ V, Calls Try.prog 19 #[.int .i64 a, .int .i64 0] V fun x w' => x = .returned (.int .i64 0) ∧ V = w')
    (h1 : a ≤ s) (h2 : b ≤ s) (h3 : 0 ≤ s) (h4 : 0 ≤ p) (h5 : (0 < a ∧ 0 < b ∧ a ≤ p ∧ b ≤ p) ∨ (0 < a ∧ b ≤ 0) ∨ a ≤ 0) (h6 : mx = max a 0) :
    Calls Try.prog 8 #[.int .i64 a, .int .i64 b, .int .i64 c] w fun x w' => x = .returned (.bool true) ∧ Below w.heap.size w w' := by
  have H6 := Lib.hid h6
  have H5 := Lib.hid h5
  clear h5 h6
  go_enter Try.func8, Try.ntmps8
  go_wp2_with fail
  refine (K1 _).mono ?_
  rintro x w1 ⟨rfl, rfl⟩
  go_wp2_with fail
  refine (K2 _).mono ?_
  rintro x w1 ⟨rfl, rfl⟩
  go_wp2_with fail
  refine (K3 _).mono ?_
  rintro x w1 ⟨rfl, rfl⟩
  go_wp2_with fail
  refine (K4 _).mono ?_
  rintro x w1 ⟨rfl, rfl⟩
  rcases H5.out with ⟨g1, g2, g3, g4⟩ | ⟨g1, g2⟩ | g1
  · have t : (mx == max a 0) = true := by rw [H6.out]; simp
    clear H5 H6
    go_wp2_with fail
    refine (K1 _).mono ?_
    rintro x w1 ⟨rfl, rfl⟩
    go_wp2_with fail
    refine (K5 _).mono ?_
    rintro x w1 ⟨rfl, rfl⟩
    go_wp2_with fail
    refine (K6 _).mono ?_
    rintro x w1 ⟨rfl, rfl⟩
    go_wp2_with fail
    refine (K7 _).mono ?_
    rintro x w1 ⟨rfl, rfl⟩
    go_wp2_with fail
    refine (K8 _).mono ?_
    rintro x w1 ⟨rfl, rfl⟩
    go_wp2_with fail
    refine (K9 _).mono ?_
    rintro x w1 ⟨rfl, rfl⟩
    go_wp2_with fail
    refine (live_any _).mono ?_
    rintro x w1 ⟨rfl, hb⟩
    go_wp2_with fail
    go_ret
    exact ⟨rfl, hb⟩
  · have t : (mx == max a 0) = true := by rw [H6.out]; simp
    clear H5 H6
    go_wp2_with fail
    refine (K1 _).mono ?_
    rintro x w1 ⟨rfl, rfl⟩
    go_wp2_with fail
    refine (K5 _).mono ?_
    rintro x w1 ⟨rfl, rfl⟩
    go_wp2_with fail
    refine (K6 _).mono ?_
    rintro x w1 ⟨rfl, rfl⟩
    go_wp2_with fail
    refine (K7 _).mono ?_
    rintro x w1 ⟨rfl, rfl⟩
    go_wp2_with fail
    refine (K8 _).mono ?_
    rintro x w1 ⟨rfl, rfl⟩
    go_wp2_with fail
    refine (K9 _).mono ?_
    rintro x w1 ⟨rfl, rfl⟩
    go_wp2_with fail
    refine (live_any _).mono ?_
    rintro x w1 ⟨rfl, hb⟩
    go_wp2_with fail
    go_ret
    exact ⟨rfl, hb⟩
  · have t : (mx == max a 0) = true := by rw [H6.out]; simp
    clear H5 H6
    go_wp2_with fail
    refine (K1 _).mono ?_
    rintro x w1 ⟨rfl, rfl⟩
    go_wp2_with fail
    refine (K5 _).mono ?_
    rintro x w1 ⟨rfl, rfl⟩
    go_wp2_with fail
    refine (K6 _).mono ?_
    rintro x w1 ⟨rfl, rfl⟩
    go_wp2_with fail
    refine (K7 _).mono ?_
    rintro x w1 ⟨rfl, rfl⟩
    go_wp2_with fail
    refine (K8 _).mono ?_
    rintro x w1 ⟨rfl, rfl⟩
    go_wp2_with fail
    refine (K9 _).mono ?_
    rintro x w1 ⟨rfl, rfl⟩
    go_wp2_with fail
    refine (live_any _).mono ?_
    rintro x w1 ⟨rfl, hb⟩
    go_wp2_with fail
    go_ret
    exact ⟨rfl, hb⟩
theorem times_one {a : Int} (h : wf a) : timesE a 1 = max a 0 := by
  have := (wf_iff.1 h).2
  unfold timesE
  rw [show max (1 : Int) 0 = 1 from rfl, Int.mul_one]
  omega
theorem times_zero (a : Int) : timesE a 0 = 0 := times_neg a 0 (.inr (Int.le_refl _))
theorem times_comm (a b : Int) : timesE a b = timesE b a := by unfold timesE; rw [Int.mul_comm]
theorem addE_assoc (a b c : Int) : addE (addE a b) c = addE a (addE b c) := by unfold addE; omega
theorem times_ge {a b : Int} (ha : 0 < a) (hb : 0 < b) (hw : wf a) : a ≤ timesE a b := by
  rw [times_pos a b ha hb]
  have h1 : a * 1 ≤ a * b := Int.mul_le_mul_of_nonneg_left (by omega) (by omega)
  have := (wf_iff.1 hw).2
  omega
theorem acctMost_any (a b c : Int) (ha : wf a) (hb : wf b) (hc : wf c) (w : World) : Calls Try.prog 8 #[.int .i64 a, .int .i64 b, .int .i64 c] w fun x w' => x = .returned (.bool true) ∧ Below w.heap.size w w' := by
  have ws := wf_of (addE_wf a b)
  have wr := wf_of (addE_wf b c)
  refine most_walk a b c (addE a b) (timesE a b) (addE (addE a b) c) (addE b c) (max a 0) w (add_any a b ha hb) (times_any a b ha hb) ?_ ?_ (add_any _ c ws hc) (add_any b c hb hc) ?_ ?_ ?_ ?_ ?_ (addE_wf a b).1 (timesE_wf a b).1 ?_ rfl
  · rw [addE_comm]; exact add_any b a hb ha
  · rw [times_comm]; exact times_any b a hb ha
  · rw [addE_assoc]; exact add_any a _ ha wr
  · rw [← times_one ha]; exact times_any a 1 ha rfl
  · have := times_any a 0 ha rfl
    rw [times_zero] at this
    exact this
  · have := (wf_iff.1 ha).2; unfold addE; omega
  · have := (wf_iff.1 hb).2; unfold addE; omega
  · by_cases h1 : 0 < a
    · by_cases h2 : 0 < b
      · exact .inl ⟨h1, h2, times_ge h1 h2 ha, by rw [times_comm]; exact times_ge h2 h1 hb⟩
      · exact .inr (.inl ⟨h1, by omega⟩)
    · exact .inr (.inr (by omega))
end Go.Proofs.Ytahbdhhofppdaaa
