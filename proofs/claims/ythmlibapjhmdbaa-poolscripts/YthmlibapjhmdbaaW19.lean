/- The document's Order. -/
import Derived.Test.YthmlibapjhmdbaaW18
namespace Go.Proofs.Ythmlibapjhmdbaa
open Go.RowKit Go.Shelf

set_option maxRecDepth 100000 in
set_option maxHeartbeats 1000000 in
theorem rOrder_bad (s p d : Int) (w : World) (h : LBad s p) :
    Calls Try.prog 62 #[.agg #[.int .i64 s, .int .i64 p], .int .i64 d] w fun e w' => e = .returned (.tuple #[.slice none 0 0, .int .i64 1]) ∧ Below w.heap.size w w' := by
  have H := Lib.hid h
  clear h
  have hb0 := (Below.refl _ w).alloc (Nat.le_refl _) (.cells #[.int .i64 s, .int .i64 p] 23)
  go_enter Try.func62, Try.ntmps62
  go_wp2_with fail
  refine (rCheck_bad s p _ H.out).mono ?_
  rintro e w2 ⟨rfl, hb2⟩
  replace hb0 := bmore hb0 hb2
  clear hb2
  go_wp2_with fail
  go_ret2
  exact ⟨rfl, hb0⟩
set_option maxRecDepth 100000 in
set_option maxHeartbeats 1000000 in
theorem rOrder_none (s p : Nat) (d : Int) (w : World) (h : LOk s p) (hd : d < 0 ∨ 1 < d) :
    Calls Try.prog 62 #[.agg #[.int .i64 s, .int .i64 p], .int .i64 d] w fun e w' => e = .returned (.tuple #[.slice none 0 0, .int .i64 1]) ∧ Below w.heap.size w w' := by
  have H := Lib.hid h
  clear h
  have hb0 := (Below.refl _ w).alloc (Nat.le_refl _) (.cells #[.int .i64 s, .int .i64 p] 23)
  go_enter Try.func62, Try.ntmps62
  go_wp2_with fail
  refine (rCheck_ok s p _ H.out).mono ?_
  rintro e w2 ⟨rfl, hb2⟩
  replace hb0 := bmore hb0 hb2
  clear hb2
  by_cases h0 : d < 0
  · go_wp2_with fail
    go_ret2
    exact ⟨rfl, hb0⟩
  · have h1 : 1 < d := by omega
    have t0 : decide (d < 0) = false := by simpa using h0
    clear hd h0
    go_wp2_with fail
    go_ret2
    exact ⟨rfl, hb0⟩

/-- A slice of its own that holds these numbers. -/
def GivesN (w : World) (zs : List Nat) (n : Nat) (e : Ending) (w' : World) : Prop :=
  ∃ v, e = .returned (.tuple #[v, .int .i64 0]) ∧ w'.ownsRow w.heap.size 3 1 v n (nv zs) ∧ Below w.heap.size w w'

set_option maxRecDepth 100000 in
set_option maxHeartbeats 1000000 in
theorem rOrder_block (s p : Nat) (w : World) (h : LOk s p) :
    Calls Try.prog 62 #[.agg #[.int .i64 s, .int .i64 p], .int .i64 0] w (GivesN w ((List.range (s * p)).map id) (s * p)) := by
  have H := Lib.hid h
  have hC := Lib.hid (fun W => rCount_ok s p W h)
  have h5 := h.2.2.2.2
  clear h
  generalize s * p = N at *
  obtain ⟨i0, hi, hz0, hz1, hz2⟩ := info_parts info3
  have hb0 := (Below.refl _ w).alloc (Nat.le_refl _) (.cells #[.int .i64 s, .int .i64 p] 23)
  have k0 := Bk.new w 23 #[.int .i64 s, .int .i64 p]
  go_enter Try.func62, Try.ntmps62
  go_wp2_with fail
  refine (rCheck_ok s p _ H.out).mono ?_
  rintro e w2 ⟨rfl, hb2⟩
  replace k0 := k0.next hb2
  replace hb0 := bmore hb0 hb2
  clear hb2
  go_wp2_with fail
  go_loopw [6, 7] (fun o i wr => ∃ (k : Nat), k ≤ N ∧ i = .int .i64 k ∧ wr.ownsRow (w.heap.size + 1) 3 1 o k (nv (List.range k)) ∧ Bk wr w.heap.size 23 #[.int .i64 s, .int .i64 p] ∧ Below w.heap.size w wr)
    (fun _ i _ => N - (intOf i).toNat)
  case atStart => exact ⟨0, Nat.zero_le _, rfl, World.ownsRow_nil _ _ _ _, k0, hb0⟩
  case round =>
    clear k0 hb0
    obtain ⟨k, hk, rfl, hrow, k0, hb0⟩ := hrel
    obtain ⟨A, cap, rfl⟩ := own_form hrow
    have c0 := k0.cell 0 _ rfl
    have c1 := k0.cell 1 _ rfl
    go_wp2_with fail
    refine (hC.out _).mono ?_
    rintro e w3 ⟨rfl, hb3⟩
    replace hrow := own_next hrow hb3
    replace k0 := k0.next hb3
    replace hb0 := bmore hb0 hb3
    clear hb3 c0 c1
    by_cases hlt : k < N
    · have hl0 := k0.lt
      go_wp2_with (at_builtin; refine wpList_append_own _ rfl _ _ 44 rfl (w.heap.size + 1) 3 i0 (.int .i64 0) 1 8 Try.underlying44 hi hz0 hz1 hz2 rfl (by decide) _ _ _ rfl (hrow.alloc _) ⟨w3.heap.size, 0, none⟩ 1 1 [.int .i64 (k : Int)] rfl rfl (cell_one_new _ _ _) (by simp [Value.oneCell']) (by unfold maxLen; omega) (by omega) (by simp; omega) ?_; intro v' w1 hown' hgrow _; obtain ⟨g', cap', rfl⟩ := ownsRow_succ hown'; have hb1 := appended_below hrow (by omega) hgrow)
      go_roundw
      case rel => exact ⟨k + 1, by omega, by go_num, by rw [List.range_succ, nv_snoc]; exact hown', k0.below hb1 (by omega), hb0.trans (hb1.mono (by omega))⟩
      case measure => simp [intOf]; omega
    · obtain rfl : k = N := by omega
      go_wp2_with fail
      go_ret2
      exact ⟨_, rfl, by rw [List.map_id]; exact Joins.ownsRow_le hrow (by omega), hb0⟩

theorem cyc_range_snoc (s p k : Nat) : (List.range (k + 1)).map (cyc s p) = (List.range k).map (cyc s p) ++ [cyc s p k] := by simp [List.range_succ]

set_option maxRecDepth 100000 in
set_option maxHeartbeats 1000000 in
theorem rOrder_cyclic (s p : Nat) (w : World) (h : LOk s p) :
    Calls Try.prog 62 #[.agg #[.int .i64 s, .int .i64 p], .int .i64 1] w (GivesN w ((List.range (s * p)).map (cyc s p)) (s * p)) := by
  have H := Lib.hid h
  obtain ⟨h1, h2, h3, h4, h5⟩ := h
  have H5 := Lib.hid h5
  clear h5
  obtain ⟨i0, hi, hz0, hz1, hz2⟩ := info_parts info3
  have hb0 := (Below.refl _ w).alloc (Nat.le_refl _) (.cells #[.int .i64 s, .int .i64 p] 23)
  have k0 := Bk.new w 23 #[.int .i64 s, .int .i64 p]
  go_enter Try.func62, Try.ntmps62
  go_wp2_with fail
  refine (rCheck_ok s p _ H.out).mono ?_
  rintro e w2 ⟨rfl, hb2⟩
  replace k0 := k0.next hb2
  replace hb0 := bmore hb0 hb2
  clear hb2
  go_wp2_with fail
  go_loopw [6, 8] (fun o i wr => ∃ (q : Nat), q ≤ p ∧ i = .int .i64 q ∧ wr.ownsRow (w.heap.size + 1) 3 1 o (q * s) (nv ((List.range (q * s)).map (cyc s p))) ∧ Bk wr w.heap.size 23 #[.int .i64 s, .int .i64 p] ∧ Below w.heap.size w wr)
    (fun _ i _ => p - (intOf i).toNat)
  case atStart =>
    refine ⟨0, Nat.zero_le _, rfl, ?_, k0, hb0⟩
    rw [Nat.zero_mul]
    exact World.ownsRow_nil _ _ _ _
  case round =>
    clear k0 hb0
    obtain ⟨q, hq, rfl, hrow, k0, hb0⟩ := hrel
    obtain ⟨A, cap, rfl⟩ := own_form hrow
    have c0 := k0.cell 0 _ rfl
    have c1 := k0.cell 1 _ rfl
    by_cases hlt : q < p
    · have hdq : decide ((q : Int) < (p : Int)) = true := by simp; omega
      have hdq2 : decide (q < p) = true := by simp; omega
      go_wp2_with fail
      obtain ⟨Wq, hWq⟩ : ∃ Wq, Wq = wr := ⟨_, rfl⟩
      subst hWq
      clear c0 c1
      go_loopw [6, 9] (fun o i wr => ∃ (t : Nat), t ≤ s ∧ i = .int .i64 t ∧ wr.ownsRow (w.heap.size + 1) 3 1 o (q * s + t) (nv ((List.range (q * s + t)).map (cyc s p))) ∧ Bk wr w.heap.size 23 #[.int .i64 s, .int .i64 p] ∧ Below w.heap.size w wr)
        (fun _ i _ => s - (intOf i).toNat)
      case atStart => exact ⟨0, Nat.zero_le _, rfl, hrow, k0, hb0⟩
      case round =>
        clear k0 hb0 hrow
        obtain ⟨t, ht, rfl, hrow, k0, hb0⟩ := hrel
        obtain ⟨A2, cap2, rfl⟩ := own_form hrow
        have c0 := k0.cell 0 _ rfl
        have c1 := k0.cell 1 _ rfl
        by_cases hlt2 : t < s
        · have hcl := cyc_lt s p q t hlt2 hlt
          have hpl := place_lt s p q t hlt2 hlt
          have HC := Lib.hid (cyc_at s p q t hlt2)
          have hs1 : t * p + q < 256 := Nat.lt_of_lt_of_le hcl H5.out
          have hp1 : q * s + t < 256 := Nat.lt_of_lt_of_le hpl H5.out
          obtain ⟨y, hy⟩ : ∃ y, y = t * p + q := ⟨_, rfl⟩
          have hyi : (t : Int) * (p : Int) + (q : Int) = (y : Int) := by rw [hy]; simp
          have b1 : (0 : Int) ≤ (t : Int) * (p : Int) := by
            have : (0 : Int) ≤ ((t * p : Nat) : Int) := by omega
            simpa using this
          have b2 : (t : Int) * (p : Int) ≤ 256 := by omega
          have HY := Lib.hid hy
          rw [← hy] at hs1
          clear hy hcl hpl
          have hl0 := k0.lt
          go_wp2_with (at_builtin; refine wpList_append_own _ rfl _ _ 44 rfl (w.heap.size + 1) 3 i0 (.int .i64 0) 1 8 Try.underlying44 hi hz0 hz1 hz2 rfl (by decide) _ _ _ rfl (hrow.alloc _) ⟨wr.heap.size, 0, none⟩ 1 1 [.int .i64 (y : Int)] rfl rfl (cell_one_new _ _ _) (by simp [Value.oneCell']) (by unfold maxLen; omega) (by omega) (by simp; omega) ?_; intro v' w1 hown' hgrow _; obtain ⟨g', cap', rfl⟩ := ownsRow_succ hown'; have hb1 := appended_below hrow (by omega) hgrow)
          go_roundw
          case rel => exact ⟨t + 1, by omega, by go_num, by rw [← Nat.add_assoc, cyc_range_snoc, nv_snoc, HC.out, ← HY.out]; exact hown', k0.below hb1 (by omega), hb0.trans (hb1.mono (by omega))⟩
          case measure => simp [intOf]; omega
        · obtain rfl : t = s := by omega
          go_wp2_with fail
          go_roundw
          case rel => exact ⟨q + 1, by omega, by go_num, by rw [Nat.add_mul, Nat.one_mul]; exact hrow, k0, hb0⟩
          case measure => simp [intOf]; omega
    · obtain rfl : q = p := by omega
      go_wp2_with fail
      go_ret2
      refine ⟨_, rfl, ?_, hb0⟩
      rw [show s * q = q * s from Nat.mul_comm _ _]
      exact Joins.ownsRow_le hrow (by omega)
end Go.Proofs.Ythmlibapjhmdbaa
