/- dag: holds, fails, slices.Clone; Same, in, Small. -/
import Derived.Test.YtodgkjmkjahkiaaD4
namespace Go.Proofs.Ytodgkjmkjahkiaa
open Go.RowKit

def hB (k c : Int) : Bool := if k = 0 then c == 0 else if k = 2 then (!(c == -1) && !(c == 0) && !(c == 256)) else !(c == -1)
def fB (k c : Int) : Bool := !(c == -1) && !hB k c
theorem holds_hB {e : Ed} {cs : List Int} {j : Nat} (h : e.s = j) : holdsB e cs = hB e.k (cs.getD j 0) := by unfold holdsB hB codeA; rw [h]; rfl
theorem fails_fB {e : Ed} {cs : List Int} {j : Nat} (h : e.s = j) : failsB e cs = fB e.k (cs.getD j 0) := by unfold failsB fB; rw [holds_hB h]; unfold codeA; rw [h]; rfl
set_option maxRecDepth 100000 in
set_option maxHeartbeats 1000000 in
theorem holds_any (A : Option Addr) (n cap : Nat) (cs : List Int) (j : Nat) (k : Int) (w : World) (hA : IntsAt w A cs) (hn : cs.length = n) (_ : n ≤ maxLen) (hj : j < n) :
    Calls Try.prog 48 #[.agg #[.int .i64 j, .int .i64 k], .slice A n cap] w fun x w' => x = .returned (.bool (hB k (cs.getD j 0))) ∧ Below w.heap.size w w' := by
  have hb := below_alloc w (.cells #[.int .i64 j, .int .i64 k] 40)
  obtain ⟨ad, rfl, h1, h2⟩ := (hA.next hb).at_ (k := j) (by rw [hn]; exact hj)
  have d0 := (Bk.new w 40 #[.int .i64 j, .int .i64 k]).cell 0 _ rfl
  have d1 := (Bk.new w 40 #[.int .i64 j, .int .i64 k]).cell 1 _ rfl
  have i0 : (0 : Int) ≤ (j : Int) := by omega
  have i1 : (j : Int) < (n : Int) := by omega
  generalize cs.getD j 0 = c at *
  clear hA hn
  have HB := Lib.hid hb
  clear hb
  unfold hB
  by_cases k0 : k = 0
  · subst k0
    cases c0 : (c == 0)
    all_goals
      go_enter Try.func48, Try.ntmps48
      go_wp2_with fail
      go_ret
      exact ⟨by first | rfl | simp_all, HB.out⟩
  · have k0' : (k == 0) = false := by simpa using k0
    by_cases k2 : k = 2
    · subst k2
      rw [if_neg k0, if_pos rfl]
      go_enter Try.func48, Try.ntmps48
      go_wp2_with fail
      all_goals
        go_ret
        exact ⟨by first | rfl | simp_all, HB.out⟩
    · have k2' : (k == 2) = false := by simpa using k2
      rw [if_neg k0, if_neg k2]
      clear k0 k2
      cases c1 : (c == -1)
      all_goals
        go_enter Try.func48, Try.ntmps48
        go_wp2_with fail
        go_ret
        exact ⟨by first | rfl | simp_all, HB.out⟩
set_option maxRecDepth 100000 in
set_option maxHeartbeats 1000000 in
theorem fails_any (A : Option Addr) (n cap : Nat) (cs : List Int) (j : Nat) (k : Int) (w : World) (hA : IntsAt w A cs) (hn : cs.length = n) (_ : n ≤ maxLen) (hj : j < n) :
    Calls Try.prog 52 #[.agg #[.int .i64 j, .int .i64 k], .slice A n cap] w fun x w' => x = .returned (.bool (fB k (cs.getD j 0))) ∧ Below w.heap.size w w' := by
  have hb := below_alloc w (.cells #[.int .i64 j, .int .i64 k] 40)
  have K := Lib.hid (holds_any A n cap cs j k (w.alloc (.cells #[.int .i64 j, .int .i64 k] 40)) (hA.next hb) hn ‹_› hj)
  obtain ⟨ad, rfl, h1, h2⟩ := (hA.next hb).at_ (k := j) (by rw [hn]; exact hj)
  have d0 := (Bk.new w 40 #[.int .i64 j, .int .i64 k]).cell 0 _ rfl
  have d1 := (Bk.new w 40 #[.int .i64 j, .int .i64 k]).cell 1 _ rfl
  have i0 : (0 : Int) ≤ (j : Int) := by omega
  have i1 : (j : Int) < (n : Int) := by omega
  unfold fB
  generalize hB k (cs.getD j 0) = b at *
  generalize cs.getD j 0 = c at *
  clear hA hn
  have HB := Lib.hid hb
  clear hb
  cases c1 : (c == -1)
  · have c2 : (c != -1) = true := by unfold bne; rw [c1]; rfl
    go_enter Try.func52, Try.ntmps52
    go_wp2_with (go_at_call 48; (with_reducible refine K.out.mono ?_); rintro y w2 ⟨rfl, hb2⟩)
    all_goals
      go_ret
      exact ⟨by first | rfl | simp_all, bmore HB.out hb2⟩
  · have c2 : (c != -1) = false := by unfold bne; rw [c1]; rfl
    go_enter Try.func52, Try.ntmps52
    go_wp2_with fail
    go_ret
    exact ⟨by first | rfl | simp_all, HB.out⟩

theorem eqs (w : World) (a : Option Addr) (n c n' c' : Nat) : (binOp .eql 28 (.slice a n c) (.slice none n' c')).run Try.prog w = .ok (.bool a.isNone) w := Lib.run_eql_slice_nil w _ _ a n c n' c' Try.underlying28
attribute [local go_sem] eqs
set_option maxRecDepth 100000 in
set_option maxHeartbeats 1000000 in
theorem clone_any (A : Option Addr) (n cap : Nat) (zs : List Int) (w : World) (hz : IntsAt w A zs) (hn : zs.length = n) (hl : n ≤ 1000) :
    Calls Try.prog 51 #[.slice A n cap] w fun e w' => ∃ v, e = .returned v ∧ w'.ownsRow w.heap.size 3 1 v n (iv zs) ∧ Below w.heap.size w w' := by
  obtain ⟨i0, hi, hz0, hz1, hz2⟩ := info_parts info3
  cases A with
  | none =>
    have e : zs = [] := by
      rcases hz with e | ⟨ad, e, _⟩
      · exact e
      · cases e
    subst e
    obtain rfl : n = 0 := by simpa using hn.symm
    go_enter Try.func51, Try.ntmps51
    go_wp2_with fail
    go_ret
    exact ⟨_, rfl, World.ownsRow_nil _ _ _ _, Below.refl _ _⟩
  | some a =>
    have HZ := Lib.hid hz
    have HN := Lib.hid hn
    clear hz hn
    go_enter Try.func51, Try.ntmps51
    go_wp2_with (at_builtin; refine wpList_append_own _ rfl _ _ 28 rfl w.heap.size 3 i0 (.int .i64 0) 1 8 Try.underlying28 hi hz0 hz1 hz2 rfl (by decide) _ _ _ rfl (World.ownsRow_made w #[] 0 (Nat.le_refl _) (Nat.zero_le _) rfl) a n cap (iv zs) rfl ?qc1 ?qc2 ?qc3 ?qc4 ?qc5 ?qc6 ?_)
    case qc1 => rw [iv_len, HN.out]; simp
    case qc2 =>
      intro j u hj
      have hjn : j < zs.length := by
        have := (List.getElem?_eq_some_iff.1 hj).1
        rwa [iv_len] at this
      rcases HZ.out with e | ⟨ad, e, h1, h2⟩
      · rw [e] at hjn; cases hjn
      · cases e
        refine ((below_alloc w _).cell (p := a.add j) (by rw [block_add]; exact h1)).trans ?_
        rw [h2 j hjn, ← hj]
        simp [iv, List.getD, hjn]
    case qc3 => intro u hu; obtain ⟨x, _, rfl⟩ := List.mem_map.1 hu; rfl
    case qc4 => unfold maxLen; omega
    case qc5 => omega
    case qc6 => simp
    intro v' w1 hown hgrow hnil
    obtain ⟨A', cap', rfl⟩ := own_form hown
    go_wp2_with fail
    go_ret
    refine ⟨_, rfl, by simpa using hown, ?_⟩
    exact (below_alloc w _).grown hgrow (by simp) (by intro k hk; simp [Value.ownBlock] at hk; omega)
set_option maxRecDepth 100000 in
set_option maxHeartbeats 400000 in
theorem same_eq (A A' : Option Addr) (ca cb n : Nat) (zs : List Int) (w : World) (hA : IntsAt w A zs) (hB : IntsAt w A' zs) (hn : zs.length = n) (hl : n ≤ maxLen) :
    Calls Try.prog 19 #[.slice A n ca, .slice A' n cb] w fun e w' => e = .returned (.bool true) ∧ Below w.heap.size w w' := by
  have HN := Lib.hid hn
  clear hn
  unfold maxLen at hl
  go_enter Try.func19, Try.ntmps19
  go_wp2_with fail
  go_loopw [5] (fun i wr => ∃ k : Nat, k ≤ n ∧ i = .int .i64 k ∧ Below w.heap.size w wr)
    (fun i _ => n - (intOf i).toNat)
  case atStart => exact ⟨0, Nat.zero_le _, rfl, Below.refl _ _⟩
  case round =>
    obtain ⟨k, hk, rfl, hb⟩ := hrel
    by_cases hlt : k < n
    · obtain ⟨ad, rfl, h1, h2⟩ := (hA.next hb).at_ (k := k) (by rw [HN.out]; exact hlt)
      obtain ⟨ad', rfl, h3, h4⟩ := (hB.next hb).at_ (k := k) (by rw [HN.out]; exact hlt)
      generalize zs.getD k 0 = z at *
      have i0 : (0 : Int) ≤ (k : Int) := by omega
      have i1 : (k : Int) < (n : Int) := by omega
      go_wp2_with fail
      go_quiet (fail)
      go_wp2_with fail
      go_roundw
      case rel => exact ⟨k + 1, by omega, by go_num, below_drewN' hb _⟩
      case measure => simp [intOf]; omega
    · obtain rfl : k = n := by omega
      go_wp2_with fail
      go_ret
      exact ⟨rfl, hb⟩
set_option maxRecDepth 100000 in
set_option maxHeartbeats 400000 in
theorem in_any (A : Option Addr) (n cap : Nat) (zs : List Int) (x : Int) (w : World) (hA : IntsAt w A zs) (hn : zs.length = n) (hl : n ≤ maxLen) :
    Calls Try.prog 28 #[.slice A n cap, .int .i64 x] w fun e w' => e = .returned (.bool (hasB zs x)) ∧ w' = w := by
  have HN := Lib.hid hn
  clear hn
  unfold maxLen at hl
  go_enter Try.func28, Try.ntmps28
  go_wp2_with fail
  go_loopw [5] (fun i wr => ∃ k : Nat, k ≤ n ∧ i = .int .i64 k ∧ wr = w ∧ ∀ j, j < k → zs.getD j 0 ≠ x)
    (fun i _ => n - (intOf i).toNat)
  case atStart => exact ⟨0, Nat.zero_le _, rfl, rfl, fun j hj => by omega⟩
  case round =>
    obtain ⟨k, hk, rfl, rfl, hall⟩ := hrel
    by_cases hlt : k < n
    · obtain ⟨ad, rfl, h1, h2⟩ := hA.at_ (k := k) (by rw [HN.out]; exact hlt)
      have i0 : (0 : Int) ≤ (k : Int) := by omega
      have i1 : (k : Int) < (n : Int) := by omega
      have hm : zs.getD k 0 ∈ zs := by
        rw [List.getD_eq_getElem?_getD, List.getElem?_eq_getElem (by rw [HN.out]; exact hlt)]
        exact List.getElem_mem _
      have HM := Lib.hid hm
      clear hm
      by_cases hc : zs.getD k 0 = x
      · have HX := Lib.hid (show hasB zs x = true from hasB_iff.2 (by rw [← hc]; exact HM.out))
        have hd : (zs.getD k 0 == x) = true := by rw [hc]; exact beq_self_eq_true _
        clear hc
        generalize zs.getD k 0 = z at *
        go_wp2_with fail
        go_ret
        exact ⟨by rw [HX.out]; rfl, rfl⟩
      · have hd : (zs.getD k 0 == x) = false := by simpa using hc
        have HL := Lib.hid (show ∀ j, j < k + 1 → zs.getD j 0 ≠ x from by
          intro j hj
          rcases Nat.lt_or_ge j k with h | h
          · exact hall j h
          · obtain rfl : j = k := by omega
            exact hc)
        clear hc
        generalize zs.getD k 0 = z at *
        go_wp2_with fail
        go_roundw
        case rel => exact ⟨k + 1, by omega, by go_num, by first | rfl | trivial, HL.out⟩
        case measure => simp [intOf]; omega
    · obtain rfl : k = n := by omega
      have HX := Lib.hid (show hasB zs x = false from by
        rw [← Bool.not_eq_true, hasB_iff]
        intro hm
        obtain ⟨j, hj, e⟩ := List.getElem_of_mem hm
        refine hall j (by rw [← HN.out]; exact hj) ?_
        rw [List.getD_eq_getElem?_getD, List.getElem?_eq_getElem hj]
        exact e)
      go_wp2_with fail
      go_ret
      exact ⟨by rw [HX.out]; rfl, rfl⟩
/-- Few steps, of few edges. -/
def smallB (l : List St) : Bool := allR (fun i => decide ((stA l i).es.length ≤ 30)) l.length && decide (l.length ≤ 30)
set_option maxRecDepth 100000 in
set_option maxHeartbeats 400000 in
theorem small_any (A : Option Addr) (n cap : Nat) (l : List St) (w : World) (hA : StsAt w A l) (hn : l.length = n) (hl : n ≤ maxLen) :
    Calls Try.prog 15 #[.slice A n cap] w fun e w' => e = .returned (.bool (smallB l)) ∧ w' = w := by
  have HN := Lib.hid hn
  have hde := Lib.hid (show smallB l = (allR (fun i => decide ((stA l i).es.length ≤ 30)) n && decide (n ≤ 30)) from by rw [← hn]; rfl)
  clear hn
  unfold maxLen at hl
  go_enter Try.func15, Try.ntmps15
  go_wp2_with fail
  go_loopw [3] (fun i wr => ∃ k : Nat, k ≤ n ∧ i = .int .i64 k ∧ wr = w ∧ allR (fun i => decide ((stA l i).es.length ≤ 30)) k = true)
    (fun i _ => n - (intOf i).toNat)
  case atStart => exact ⟨0, Nat.zero_le _, rfl, rfl, rfl⟩
  case round =>
    obtain ⟨k, hk, rfl, rfl, hall⟩ := hrel
    by_cases hlt : k < n
    · obtain ⟨ad, B, c, rfl, h1, h2⟩ := hA.at_ (i := k) (by rw [HN.out]; exact hlt)
      obtain ⟨c0, c1, c2, c3, c4, lm, lc, eds⟩ := h2
      have i0 : (0 : Int) ≤ (k : Int) := by omega
      have i1 : (k : Int) < (n : Int) := by omega
      clear c0 c1 c2 c3 eds
      by_cases hm : (stA l k).es.length ≤ 30
      · have HS := Lib.hid (show allR (fun i => decide ((stA l i).es.length ≤ 30)) (k + 1) = true from by
          show (allR _ k && _) = true
          rw [hall]; simpa using hm)
        have hm' : ¬ ((stA l k).es.length : Int) > 30 := by omega
        generalize stA l k = x at *
        go_wp2_with fail
        go_roundw
        case rel => exact ⟨k + 1, by omega, by go_num, by first | rfl | trivial, HS.out⟩
        case measure => simp [intOf]; omega
      · have HS := Lib.hid (show smallB l = false from by
          rw [hde.out, allR_no (f := fun i => decide ((stA l i).es.length ≤ 30)) hlt (by simpa using hm)]; rfl)
        have hm' : ((stA l k).es.length : Int) > 30 := by omega
        generalize stA l k = x at *
        go_wp2_with fail
        go_ret
        exact ⟨by rw [HS.out]; rfl, rfl⟩
    · obtain rfl : k = n := by omega
      have HS := Lib.hid (show smallB l = decide (k ≤ 30) from by rw [hde.out, hall]; rfl)
      by_cases hm : k ≤ 30
      · have hm' : (k : Int) ≤ 30 := by omega
        go_wp2_with fail
        go_ret
        exact ⟨by rw [HS.out]; simp [hm], rfl⟩
      · have hm' : ¬ (k : Int) ≤ 30 := by omega
        go_wp2_with fail
        go_ret
        exact ⟨by rw [HS.out]; simp [hm], rfl⟩
end Go.Proofs.Ytodgkjmkjahkiaa
