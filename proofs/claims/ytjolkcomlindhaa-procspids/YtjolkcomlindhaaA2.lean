/- acct: mayBe, Of, own; the document's Of. -/
import Derived.Test.YtjolkcomlindhaaA1
namespace Go.Proofs.Ytjolkcomlindhaa
open Go.RowKit

/-- A use. -/
abbrev useV (j c f t : Int) : Value := .agg #[.int .i64 j, .int .i64 c, .int .i64 f, .int .i64 t]
def mayB (j c f t : Int) : Bool := decide (0 ≤ j) && decide (j ≤ 1099511627776) && decide (0 ≤ c) && decide (0 ≤ f) && decide (f ≤ t)
theorem may_iff {j c f t : Int} : mayB j c f t = true ↔ 0 ≤ j ∧ j ≤ 1099511627776 ∧ 0 ≤ c ∧ 0 ≤ f ∧ f ≤ t := by simp [mayB, and_assoc]
def ofN (j c f t : Int) : Int := if mayB j c f t then timesE c (t - f) else 0
def ofE (j c f t : Int) : Int := if mayB j c f t then 0 else 1
theorem own_any (j c f t : Int) (w : World) : Calls Try.prog 15 #[useV j c f t] w fun x w' => x = .returned (useV j c f t) ∧ Below w.heap.size w w' := by
  have kr := Bk.new (w.alloc (.cells #[.int .i64 j, .int .i64 c, .int .i64 f, .int .i64 t] 23)) 27 #[.int .i64 j, .int .i64 c, .int .i64 f, .int .i64 t]
  rw [size_alloc] at kr
  go_enter Try.func15, Try.ntmps15
  go_wp2_with fail
  have d0 := kr.cell 0 _ rfl
  have d1 := kr.cell 1 _ rfl
  have d2 := kr.cell 2 _ rfl
  have d3 := kr.cell 3 _ rfl
  exact bodyPost_ret (v := useV j c f t) (by simp [results, Try.results15, go_sem, d0, d1, d2, d3]) rfl ⟨rfl, (below_alloc _ _).alloc (by simp) _⟩
set_option maxRecDepth 100000 in
set_option maxHeartbeats 400000 in
theorem may_any (j c f t : Int) (w : World) : Calls Try.prog 46 #[useV j c f t] w fun x w' => x = .returned (.bool (mayB j c f t)) ∧ Below w.heap.size w w' := by
  have hb0 := below_alloc w (.cells #[.int .i64 j, .int .i64 c, .int .i64 f, .int .i64 t] 27)
  unfold mayB
  cases h1 : decide (0 ≤ j) <;> cases h2 : decide (j ≤ 1099511627776) <;> cases h3 : decide (0 ≤ c) <;> cases h4 : decide (0 ≤ f) <;> cases h5 : decide (f ≤ t)
  all_goals
    go_enter Try.func46, Try.ntmps46
    go_wp2_with fail
    go_ret
    exact ⟨rfl, by first | exact hb0 | exact Below.refl _ _⟩
theorem timesE_wf (a b : Int) : 0 ≤ timesE a b ∧ timesE a b ≤ 9223372036854775807 := by
  have : 0 ≤ max a 0 * max b 0 := Int.mul_nonneg (by omega) (by omega)
  unfold timesE
  omega
theorem addE_wf (a b : Int) : 0 ≤ addE a b ∧ addE a b ≤ 9223372036854775807 := by
  unfold addE
  omega
theorem ofN_wf (j c f t : Int) : 0 ≤ ofN j c f t ∧ ofN j c f t ≤ 9223372036854775807 := by
  unfold ofN
  split
  · exact timesE_wf _ _
  · omega
theorem wf_of {n : Int} (h : 0 ≤ n ∧ n ≤ 9223372036854775807) : wf n := wf_iff.2 (by omega)
set_option maxRecDepth 100000 in
set_option maxHeartbeats 400000 in
theorem of_any (j c f t : Int) (hc : wf c) (hf : wf f) (ht : wf t) (w : World) : Calls Try.prog 14 #[useV j c f t] w fun x w' => x = .returned (.tuple #[.int .i64 (ofN j c f t), .int .i64 (ofE j c f t)]) ∧ Below w.heap.size w w' := by
  have hb0 := below_alloc w (.cells #[.int .i64 j, .int .i64 c, .int .i64 f, .int .i64 t] 27)
  have kr := Bk.new w 27 #[.int .i64 j, .int .i64 c, .int .i64 f, .int .i64 t]
  have HC := Lib.hid hc
  obtain ⟨f1, f2⟩ := wf_iff.1 hf
  obtain ⟨t1, t2⟩ := wf_iff.1 ht
  clear hc hf ht
  go_enter Try.func14, Try.ntmps14
  go_wp2_with fail
  refine (may_any j c f t _).mono ?_
  rintro x w1 ⟨rfl, hb⟩
  replace kr := kr.next hb
  replace hb0 := bmore hb0 hb
  clear hb
  have d0 := kr.cell 0 _ rfl
  have d1 := kr.cell 1 _ rfl
  have d2 := kr.cell 2 _ rfl
  have d3 := kr.cell 3 _ rfl
  cases q : mayB j c f t
  · have e0 := Lib.hid (show ofN j c f t = 0 ∧ ofE j c f t = 1 from by simp [ofN, ofE, q])
    clear q
    go_wp2_with fail
    go_ret2
    exact ⟨by rw [e0.out.1, e0.out.2]; rfl, hb0⟩
  · have e0 := Lib.hid (show ofN j c f t = timesE c (t - f) ∧ ofE j c f t = 0 from by simp [ofN, ofE, q])
    obtain ⟨h1, h2, h3, h4, h5⟩ := may_iff.1 q
    have e1 : wrap64 (t - f) = t - f := IntWalk.wrap64_in _ (by omega)
    have HT := Lib.hid (wf_of (n := t - f) (by omega))
    have HV := Lib.hid (timesE_wf c (t - f))
    have K := Lib.hid (times_any c (t - f) HC.out HT.out)
    clear q h1 h2 h3 h4 h5 f1 f2 t1 t2
    go_wp2_with fail
    refine (K.out _).mono ?_
    rintro x w2 ⟨rfl, rfl⟩
    go_wp2_with fail
    go_ret2
    exact ⟨by rw [e0.out.1, e0.out.2]; rfl, hb0⟩
set_option maxRecDepth 100000 in
set_option maxHeartbeats 400000 in
theorem rof_any (j c f t : Int) (hc : wf c) (hf : wf f) (ht : wf t) (w : World) : Calls Try.prog 16 #[useV j c f t] w fun x w' => x = .returned (.tuple #[.int .i64 (ofN j c f t), .int .i64 (ofE j c f t)]) ∧ Below w.heap.size w w' := by
  have hb0 := below_alloc w (.cells #[.int .i64 j, .int .i64 c, .int .i64 f, .int .i64 t] 23)
  have kr := Bk.new w 23 #[.int .i64 j, .int .i64 c, .int .i64 f, .int .i64 t]
  have HC := Lib.hid hc
  obtain ⟨f1, f2⟩ := wf_iff.1 hf
  obtain ⟨t1, t2⟩ := wf_iff.1 ht
  clear hc hf ht
  have d0 := kr.cell 0 _ rfl
  have d1 := kr.cell 1 _ rfl
  have d2 := kr.cell 2 _ rfl
  have d3 := kr.cell 3 _ rfl
  by_cases q : mayB j c f t = true
  · rw [show ofN j c f t = timesE c (t - f) from by simp [ofN, q], show ofE j c f t = 0 from by simp [ofE, q]]
    obtain ⟨h1, h2, h3, h4, h5⟩ := may_iff.1 q
    have e1 : wrap64 (t - f) = t - f := IntWalk.wrap64_in _ (by omega)
    have HT := Lib.hid (wf_of (n := t - f) (by omega))
    have K := Lib.hid (rtimes_any c (t - f) HC.out HT.out)
    clear q f1 f2 t1 t2
    go_enter Try.func16, Try.ntmps16
    go_wp2_with fail
    refine (K.out _).mono ?_
    rintro x w2 ⟨rfl, rfl⟩
    go_wp2_with fail
    go_ret2
    exact ⟨rfl, hb0⟩
  · have qf : mayB j c f t = false := by simpa using q
    rw [show ofN j c f t = 0 from by simp [ofN, qf], show ofE j c f t = 1 from by simp [ofE, qf]]
    have q' : ¬(0 ≤ j ∧ j ≤ 1099511627776 ∧ 0 ≤ c ∧ 0 ≤ f ∧ f ≤ t) := fun h => q (may_iff.2 h)
    clear q qf
    by_cases h1 : 0 ≤ j
    · by_cases h2 : j ≤ 1099511627776
      · by_cases h3 : 0 ≤ c
        · by_cases h4 : 0 ≤ f
          · have h5 : ¬ (f ≤ t) := fun h => q' ⟨h1, h2, h3, h4, h⟩
            clear q'
            go_enter Try.func16, Try.ntmps16
            go_wp2_with fail
            go_ret2
            exact ⟨rfl, hb0⟩
          · clear q'
            go_enter Try.func16, Try.ntmps16
            go_wp2_with fail
            go_ret2
            exact ⟨rfl, hb0⟩
        · clear q'
          go_enter Try.func16, Try.ntmps16
          go_wp2_with fail
          go_ret2
          exact ⟨rfl, hb0⟩
      · clear q'
        go_enter Try.func16, Try.ntmps16
        go_wp2_with fail
        go_ret2
        exact ⟨rfl, hb0⟩
    · clear q'
      go_enter Try.func16, Try.ntmps16
      go_wp2_with fail
      go_ret2
      exact ⟨rfl, hb0⟩
end Go.Proofs.Ytjolkcomlindhaa
