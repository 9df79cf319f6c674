/- Same; the document's examples. -/
import Derived.Test.YteggadafcedojaaW12
import Derived.Laws.StructEq
import Derived.Laws.Tables
import Derived.Laws.Cover2
namespace Go.Proofs.Yteggadafcedojaa
open Go.RowKit Go.Shelf

theorem below_drewN' {B : Nat} {a w : World} (h : Below B a w) (n : Nat) : Below B a (w.drewN n) := ⟨h.os, h.tape, h.output, h.size, h.block⟩
set_option maxRecDepth 100000 in
set_option maxHeartbeats 400000 in
theorem same_eq (A B : Option Addr) (ca cb n : Nat) (xs : List Nat) (w : World) (hA : NatsAt w w.heap.size A xs) (hB : NatsAt w w.heap.size B xs) (hn : xs.length = n) (hl : n ≤ 65536) :
    Calls Try.prog 12 #[.slice A n ca, .slice B n cb] w fun e w' => e = .returned (.bool true) ∧ Below w.heap.size w w' := by
  have HN := Lib.hid hn
  clear hn
  go_enter Try.func12, Try.ntmps12
  go_wp2_with fail
  go_loopw [5] (fun i wr => ∃ k : Nat, k ≤ n ∧ i = .int .i64 k ∧ Below w.heap.size w wr)
    (fun i _ => n - (intOf i).toNat)
  case atStart => exact ⟨0, Nat.zero_le _, rfl, Below.refl _ _⟩
  case round =>
    obtain ⟨k, hk, rfl, hb⟩ := hrel
    by_cases hlt : k < n
    · obtain ⟨a, rfl, _, ha⟩ := (hA.below hb).at_ (k := k) (by rw [HN.out]; exact hlt)
      obtain ⟨b, rfl, _, hbb⟩ := (hB.below hb).at_ (k := k) (by rw [HN.out]; exact hlt)
      have i0 : (0 : Int) ≤ (k : Int) := by omega
      have i1 : (k : Int) < (n : Int) := by omega
      go_wp2_with fail
      go_quiet (fail)
      go_wp2_with fail
      go_roundw
      case rel => exact ⟨k + 1, by omega, by go_num, below_drewN' hb _⟩
      case measure => simp [intOf]; omega
    · obtain rfl : k = n := by omega
      go_wp2_with fail
      go_ret
      exact ⟨rfl, hb⟩

set_option maxHeartbeats 1000000 in
theorem eq33 (a b c d a' b' c' d' : Int) (w : World) : (Op.equalIn 10000 33 (.agg #[.int .u64 a, .int .u64 b, .int .u64 c, .int .u64 d]) (.agg #[.int .u64 a', .int .u64 b', .int .u64 c', .int .u64 d'])).run Try.prog w = .ok (a == a' && b == b' && c == c' && d == d') w := by
  have u3 := Try.underlying31
  have a3 := Try.isAgg31
  have z3 := Try.sizeOf31
  rw [show (10000 : Nat) = 9999 + 1 from rfl, Op.equalIn]
  simp only [Sem.run_bind, run_underlying Try.underlying33, Result.andThen_ok]
  simp only [Std.Legacy.Range.forIn_eq_forIn_range', Std.Legacy.Range.size, Nat.sub_zero, Nat.add_sub_cancel, Nat.div_one, List.range'_succ, List.range'_zero, List.forIn_cons, List.forIn_nil]
  go_simp
  by_cases h1 : a = a' <;> by_cases h2 : b = b' <;> by_cases h3 : c = c' <;> by_cases h4 : d = d' <;> simp [h1, h2, h3, h4]
set_option maxHeartbeats 1000000 in
theorem eq40 (a b c d a' b' c' d' : Int) (w : World) : (Op.equalIn 10000 40 (.agg #[.int .u64 a, .int .u64 b, .int .u64 c, .int .u64 d]) (.agg #[.int .u64 a', .int .u64 b', .int .u64 c', .int .u64 d'])).run Try.prog w = .ok (a == a' && b == b' && c == c' && d == d') w := by
  have u3 := Try.underlying31
  have a3 := Try.isAgg31
  have z3 := Try.sizeOf31
  rw [show (10000 : Nat) = 9999 + 1 from rfl, Op.equalIn]
  simp only [Sem.run_bind, run_underlying Try.underlying40, Result.andThen_ok]
  simp only [Std.Legacy.Range.forIn_eq_forIn_range', Std.Legacy.Range.size, Nat.sub_zero, Nat.add_sub_cancel, Nat.div_one, List.range'_succ, List.range'_zero, List.forIn_cons, List.forIn_nil]
  go_simp
  by_cases h1 : a = a' <;> by_cases h2 : b = b' <;> by_cases h3 : c = c' <;> by_cases h4 : d = d' <;> simp [h1, h2, h3, h4]
attribute [local go_sem] eq33 eq40

theorem dist1 : IsDist 1 47 2 2 (cyc 2 2) := .inr ⟨rfl, rfl, rfl⟩
theorem dist0 : IsDist 0 46 2 2 id := .inl ⟨rfl, rfl, rfl⟩
theorem lok22 : LOk 2 2 := ⟨by decide, by decide, by decide, by decide, by decide⟩
theorem w13 : Mk.W4 [13, 0, 0, 0] := by
  refine ⟨rfl, fun i => ?_⟩
  match i with
  | 0 | 1 | 2 | 3 => decide
  | n + 4 => simp [Mk.nth]
theorem ord22 : (upto (cyc 2 2) 4).map (·.1) = [0, 2, 1, 3] := by decide
theorem rk22 : ranks (wished [13, 0, 0, 0] (cyc 2 2) 4 2) 1 2 = [[5, 0, 0, 0]] := by decide
theorem few22 : (fr [13, 0, 0, 0] (upto id 4)).length < 2 * 2 := by decide
theorem enough22 : 1 * 2 ≤ (fr [13, 0, 0, 0] (upto (cyc 2 2) 4)).length := by decide
theorem all22 : vs .u64 (Mk.ofL (List.range (2 * 2))) = #[.int .u64 15, .int .u64 0, .int .u64 0, .int .u64 0] := by
  rw [show Mk.ofL (List.range (2 * 2)) = [15, 0, 0, 0] by decide]; rfl

theorem live_order (w : World) : Calls Try.prog 8 #[.agg #[.int .i64 2, .int .i64 2], .int .i64 1] w (Gives w (upto (cyc 2 2) 4) 0) := order_ok dist1 w lok22
/-- One mask, laid. -/
def One (w : World) (m : List Nat) (e : Ending) (w' : World) : Prop :=
  ∃ g, e = .returned (.tuple #[.slice (some ⟨g, 0, none⟩) 1 1, .int .i64 0]) ∧ Row .u64 33 w' g m ∧ Below w.heap.size w w'
theorem live_assign (w : World) : Calls Try.prog 19 #[.agg #[.int .i64 2, .int .i64 2], .agg #[.int .u64 13, .int .u64 0, .int .u64 0, .int .u64 0, .int .i64 1, .int .i64 2, .int .i64 1]] w (One w [5, 0, 0, 0]) := by
  refine (assign_ok dist1 1 2 13 0 0 0 w lok22 ⟨by decide, by decide, by decide, by decide⟩ w13 enough22).mono ?_
  rintro e w' ⟨g, rfl, _, hr, hb⟩
  rw [show ranks (wished [13, 0, 0, 0] (cyc 2 2) (2 * 2) (1 * 2)) 1 2 = [[5, 0, 0, 0]] from rk22] at hr
  exact ⟨g, rfl, hr, hb⟩
theorem live_few (w : World) : Calls Try.prog 19 #[.agg #[.int .i64 2, .int .i64 2], .agg #[.int .u64 13, .int .u64 0, .int .u64 0, .int .u64 0, .int .i64 2, .int .i64 2, .int .i64 0]] w fun e w' => e = .returned (.tuple #[.slice none 0 0, .int .i64 12]) ∧ Below w.heap.size w w' :=
  assign_few dist0 2 2 13 0 0 0 w lok22 ⟨by decide, by decide, by decide, by decide⟩ w13 few22
theorem live_check (w : World) : Calls Try.prog 13 #[.agg #[.int .i64 8, .int .i64 33]] w fun e w' => e = .returned (.int .i64 1) ∧ Below w.heap.size w w' :=
  check_bad 8 33 w (by unfold LBad; omega)
theorem live_all (w : World) : Calls Try.prog 11 #[.agg #[.int .i64 2, .int .i64 2]] w fun e w' => e = .returned (.agg #[.int .u64 15, .int .u64 0, .int .u64 0, .int .u64 0]) ∧ Below w.heap.size w w' := by
  have := call_ok 2 2 w lok22
  rw [all22] at this
  exact this
theorem live_socket3 (w : World) : Calls Try.prog 15 #[.agg #[.int .i64 2, .int .i64 2], .int .i64 3] w fun e w' => e = .returned (.int .i64 1) ∧ Below w.heap.size w w' := socket_in 2 2 3 w lok22 (by decide)
theorem live_socket4 (w : World) : Calls Try.prog 15 #[.agg #[.int .i64 2, .int .i64 2], .int .i64 4] w fun e w' => e = .returned (.int .i64 (-1)) ∧ Below w.heap.size w w' := socket_out 2 2 4 w lok22 (.inr (by decide))

set_option maxRecDepth 100000 in
set_option maxHeartbeats 1000000 in
theorem live_any (w : World) : Calls Try.prog 18 #[] w fun e w' => e = .returned (.bool true) ∧ Below w.heap.size w w' := by
  have hb0 := (Below.refl _ w).alloc (Nat.le_refl _) (.cells #[.int .i64 2, .int .i64 2] 28)
  have k0 := Bk.new w 28 #[.int .i64 2, .int .i64 2]
  go_enter Try.func18, Try.ntmps18
  go_wp2_with fail
  refine (live_order _).mono ?_
  rintro e w1 ⟨v, rfl, hrow, hb1⟩
  obtain ⟨A, ca, rfl⟩ := own_form hrow
  have hA := nats_whole hrow
  rw [ord22] at hA
  replace k0 := k0.next hb1
  replace hb0 := bmore hb0 hb1
  clear hb1 hrow
  have c0 := k0.cell 0 _ rfl
  have c1 := k0.cell 1 _ rfl
  rw [show (upto (cyc 2 2) 4).length = 4 from rfl]
  go_wp2_with fail
  refine (live_assign _).mono ?_
  rintro e w2 ⟨g, rfl, rg, hb2⟩
  replace hA := (hA.below hb2).more hb2.size
  replace k0 := k0.next hb2
  replace hb0 := bmore hb0 hb2
  clear hb2 c0 c1
  have c0 := k0.cell 0 _ rfl
  have c1 := k0.cell 1 _ rfl
  go_wp2_with fail
  refine (live_few _).mono ?_
  rintro e w3 ⟨rfl, hb3⟩
  replace hA := (hA.below hb3).more hb3.size
  replace rg := rg.next hb3
  replace k0 := k0.next hb3
  replace hb0 := bmore hb0 hb3
  clear hb3 c0 c1
  go_wp2_with fail
  have hL : NatsAt (w3.alloc (.cells #[.int .i64 0, .int .i64 2, .int .i64 1, .int .i64 3] 3)) (w3.alloc (.cells #[.int .i64 0, .int .i64 2, .int .i64 1, .int .i64 3] 3)).heap.size (some ⟨w3.heap.size, 0, none⟩) [0, 2, 1, 3] := by
    refine .inr ⟨_, rfl, by simp, fun j hj => ?_⟩
    have hk := Bk.new w3 3 #[.int .i64 0, .int .i64 2, .int .i64 1, .int .i64 3]
    have hadd : (⟨w3.heap.size, 0, none⟩ : Addr).add j = ⟨w3.heap.size, j, none⟩ := by unfold Addr.add; split <;> simp_all
    rw [hadd]
    match j, hj with
    | 0, _ => exact hk.cell 0 _ rfl
    | 1, _ => exact hk.cell 1 _ rfl
    | 2, _ => exact hk.cell 2 _ rfl
    | 3, _ => exact hk.cell 3 _ rfl
  have h34 : Below w3.heap.size w3 (w3.alloc (.cells #[.int .i64 0, .int .i64 2, .int .i64 1, .int .i64 3] 3)) := (Below.refl _ _).alloc (Nat.le_refl _) _
  refine (same_eq A _ ca 4 4 [0, 2, 1, 3] _ ((hA.below h34).more h34.size) hL rfl (by omega)).mono ?_
  rintro e w4 ⟨rfl, hb4⟩
  replace rg := (rg.next h34).next hb4
  replace k0 := (k0.next h34).next hb4
  replace hb0 := bmore (bmore hb0 h34) hb4
  clear hb4 hA hL h34
  have g0 := rg.cell 0 (by decide)
  have g1 := rg.cell 1 (by decide)
  have g2 := rg.cell 2 (by decide)
  have g3 := rg.cell 3 (by decide)
  simp only [Mk.nth, List.getD_cons_zero, List.getD_cons_succ] at g0 g1 g2 g3
  go_wp2_with fail
  refine (live_check _).mono ?_
  rintro e w5 ⟨rfl, hb5⟩
  replace k0 := k0.next hb5
  replace hb0 := bmore hb0 hb5
  clear hb5 g0 g1 g2 g3 rg
  have c0 := k0.cell 0 _ rfl
  have c1 := k0.cell 1 _ rfl
  go_wp2_with fail
  refine (live_all _).mono ?_
  rintro e w6 ⟨rfl, hb6⟩
  replace k0 := k0.next hb6
  replace hb0 := bmore hb0 hb6
  clear hb6 c0 c1
  have c0 := k0.cell 0 _ rfl
  have c1 := k0.cell 1 _ rfl
  go_wp2_with fail
  refine (live_socket3 _).mono ?_
  rintro e w7 ⟨rfl, hb7⟩
  replace k0 := k0.next hb7
  replace hb0 := bmore hb0 hb7
  clear hb7 c0 c1
  have c0 := k0.cell 0 _ rfl
  have c1 := k0.cell 1 _ rfl
  go_wp2_with fail
  refine (live_socket4 _).mono ?_
  rintro e w8 ⟨rfl, hb8⟩
  replace hb0 := bmore hb0 hb8
  clear hb8 c0 c1
  go_wp2_with fail
  go_ret
  exact ⟨rfl, hb0⟩
end Go.Proofs.Yteggadafcedojaa
