/- Same; the document's examples. -/
import Derived.Test.YthmlibapjhmdbaaW12
import Derived.Laws.StructEq
import Derived.Laws.Tables
import Derived.Laws.Cover2
namespace Go.Proofs.Ythmlibapjhmdbaa
open Go.RowKit Go.Shelf

theorem below_drewN' {B : Nat} {a w : World} (h : Below B a w) (n : Nat) : Below B a (w.drewN n) := ⟨h.os, h.tape, h.output, h.size, h.block⟩
set_option maxRecDepth 100000 in
set_option maxHeartbeats 400000 in
theorem same_eq (A B : Option Addr) (ca cb n : Nat) (xs : List Nat) (w : World) (hA : NatsAt w w.heap.size A xs) (hB : NatsAt w w.heap.size B xs) (hn : xs.length = n) (hl : n ≤ 65536) :
    Calls Try.prog 15 #[.slice A n ca, .slice B n cb] w fun e w' => e = .returned (.bool true) ∧ Below w.heap.size w w' := by
  have HN := Lib.hid hn
  clear hn
  go_enter Try.func15, Try.ntmps15
  go_wp2_with fail
  go_loopw [5] (fun i wr => ∃ k : Nat, k ≤ n ∧ i = .int .i64 k ∧ Below w.heap.size w wr)
    (fun i _ => n - (intOf i).toNat)
  case atStart => exact ⟨0, Nat.zero_le _, rfl, Below.refl _ _⟩
  case round =>
    obtain ⟨k, hk, rfl, hb⟩ := hrel
    by_cases hlt : k < n
    · obtain ⟨a, rfl, _, ha⟩ := (hA.below hb).at_ (k := k) (by rw [HN.out]; exact hlt)
      obtain ⟨b, rfl, _, hbb⟩ := (hB.below hb).at_ (k := k) (by rw [HN.out]; exact hlt)
      have i0 : (0 : Int) ≤ (k : Int) := by omega
      have i1 : (k : Int) < (n : Int) := by omega
      go_wp2_with fail
      go_quiet (fail)
      go_wp2_with fail
      go_roundw
      case rel => exact ⟨k + 1, by omega, by go_num, below_drewN' hb _⟩
      case measure => simp [intOf]; omega
    · obtain rfl : k = n := by omega
      go_wp2_with fail
      go_ret
      exact ⟨rfl, hb⟩

set_option maxHeartbeats 1000000 in
theorem eq33 (a b c d a' b' c' d' : Int) (w : World) : (Op.equalIn 10000 40 (.agg #[.int .u64 a, .int .u64 b, .int .u64 c, .int .u64 d]) (.agg #[.int .u64 a', .int .u64 b', .int .u64 c', .int .u64 d'])).run Try.prog w = .ok (a == a' && b == b' && c == c' && d == d') w := by
  have u3 := Try.underlying33
  have a3 := Try.isAgg33
  have z3 := Try.sizeOf33
  rw [show (10000 : Nat) = 9999 + 1 from rfl, Op.equalIn]
  simp only [Sem.run_bind, run_underlying Try.underlying40, Result.andThen_ok]
  simp only [Std.Legacy.Range.forIn_eq_forIn_range', Std.Legacy.Range.size, Nat.sub_zero, Nat.add_sub_cancel, Nat.div_one, List.range'_succ, List.range'_zero, List.forIn_cons, List.forIn_nil]
  go_simp
  by_cases h1 : a = a' <;> by_cases h2 : b = b' <;> by_cases h3 : c = c' <;> by_cases h4 : d = d' <;> simp [h1, h2, h3, h4]
set_option maxHeartbeats 1000000 in
theorem eq40 (a b c d a' b' c' d' : Int) (w : World) : (Op.equalIn 10000 35 (.agg #[.int .u64 a, .int .u64 b, .int .u64 c, .int .u64 d]) (.agg #[.int .u64 a', .int .u64 b', .int .u64 c', .int .u64 d'])).run Try.prog w = .ok (a == a' && b == b' && c == c' && d == d') w := by
  have u3 := Try.underlying33
  have a3 := Try.isAgg33
  have z3 := Try.sizeOf33
  rw [show (10000 : Nat) = 9999 + 1 from rfl, Op.equalIn]
  simp only [Sem.run_bind, run_underlying Try.underlying35, Result.andThen_ok]
  simp only [Std.Legacy.Range.forIn_eq_forIn_range', Std.Legacy.Range.size, Nat.sub_zero, Nat.add_sub_cancel, Nat.div_one, List.range'_succ, List.range'_zero, List.forIn_cons, List.forIn_nil]
  go_simp
  by_cases h1 : a = a' <;> by_cases h2 : b = b' <;> by_cases h3 : c = c' <;> by_cases h4 : d = d' <;> simp [h1, h2, h3, h4]
attribute [local go_sem] eq33 eq40

theorem dist1 : IsDist 1 85 2 2 (cyc 2 2) := .inr ⟨rfl, rfl, rfl⟩
theorem dist0 : IsDist 0 84 2 2 id := .inl ⟨rfl, rfl, rfl⟩
theorem lok22 : LOk 2 2 := ⟨by decide, by decide, by decide, by decide, by decide⟩
theorem w13 : Mk.W4 [13, 0, 0, 0] := by
  refine ⟨rfl, fun i => ?_⟩
  match i with
  | 0 | 1 | 2 | 3 => decide
  | n + 4 => simp [Mk.nth]
theorem ord22 : (upto (cyc 2 2) 4).map (·.1) = [0, 2, 1, 3] := by decide
theorem rk22 : ranks (wished [13, 0, 0, 0] (cyc 2 2) 4 2) 1 2 = [[5, 0, 0, 0]] := by decide
theorem few22 : (fr [13, 0, 0, 0] (upto id 4)).length < 2 * 2 := by decide
theorem enough22 : 1 * 2 ≤ (fr [13, 0, 0, 0] (upto (cyc 2 2) 4)).length := by decide
theorem all22 : vs .u64 (Mk.ofL (List.range (2 * 2))) = #[.int .u64 15, .int .u64 0, .int .u64 0, .int .u64 0] := by
  rw [show Mk.ofL (List.range (2 * 2)) = [15, 0, 0, 0] by decide]; rfl

/-- One mask, laid. -/
def One (w : World) (m : List Nat) (e : Ending) (w' : World) : Prop :=
  ∃ g, e = .returned (.tuple #[.slice (some ⟨g, 0, none⟩) 1 1, .int .i64 0]) ∧ Row .u64 40 w' g m ∧ Below w.heap.size w w'
theorem live_assign (w : World) : Calls Try.prog 46 #[.agg #[.int .i64 2, .int .i64 2], .agg #[.int .u64 13, .int .u64 0, .int .u64 0, .int .u64 0, .int .i64 1, .int .i64 2, .int .i64 1]] w (One w [5, 0, 0, 0]) := by
  refine (assign_ok dist1 1 2 13 0 0 0 w lok22 ⟨by decide, by decide, by decide, by decide⟩ w13 enough22).mono ?_
  rintro e w' ⟨g, rfl, _, hr, hb⟩
  rw [show ranks (wished [13, 0, 0, 0] (cyc 2 2) (2 * 2) (1 * 2)) 1 2 = [[5, 0, 0, 0]] from rk22] at hr
  exact ⟨g, rfl, hr, hb⟩
theorem live_few (w : World) : Calls Try.prog 46 #[.agg #[.int .i64 2, .int .i64 2], .agg #[.int .u64 13, .int .u64 0, .int .u64 0, .int .u64 0, .int .i64 2, .int .i64 2, .int .i64 0]] w fun e w' => e = .returned (.tuple #[.slice none 0 0, .int .i64 12]) ∧ Below w.heap.size w w' :=
  assign_few dist0 2 2 13 0 0 0 w lok22 ⟨by decide, by decide, by decide, by decide⟩ w13 few22
theorem live_check (w : World) : Calls Try.prog 29 #[.agg #[.int .i64 8, .int .i64 40]] w fun e w' => e = .returned (.int .i64 1) ∧ Below w.heap.size w w' :=
  check_bad 8 40 w (by unfold LBad; omega)
theorem live_all (w : World) : Calls Try.prog 23 #[.agg #[.int .i64 2, .int .i64 2]] w fun e w' => e = .returned (.agg #[.int .u64 15, .int .u64 0, .int .u64 0, .int .u64 0]) ∧ Below w.heap.size w w' := by
  have := call_ok 2 2 w lok22
  rw [all22] at this
  exact this
end Go.Proofs.Ythmlibapjhmdbaa
