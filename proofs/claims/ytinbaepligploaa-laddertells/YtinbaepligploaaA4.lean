/- live of the ladder. -/
import Derived.Test.YtinbaepligploaaA3
namespace Go.Proofs.Ytinbaepligploaa
open Go.RowKit Go.Shelf

set_option maxHeartbeats 1000000 in
theorem eq57 (a b c d e : Int) (w : World) : (Op.equalIn 10000 57 (.agg #[.int .i64 a, .int .i64 b, .int .i64 c, .int .i64 d, .int .i64 e]) (.agg #[.int .i64 a, .int .i64 b, .int .i64 c, .int .i64 d, .int .i64 e])).run Try.prog w = .ok true w := by
  have u3 := Try.underlying3
  have a3 := Try.isAgg3
  have z3 := Try.sizeOf3
  rw [show (10000 : Nat) = 9999 + 1 from rfl, Op.equalIn]
  simp only [Sem.run_bind, run_underlying Try.underlying57, Result.andThen_ok]
  simp only [Std.Legacy.Range.forIn_eq_forIn_range', Std.Legacy.Range.size, Nat.sub_zero, Nat.add_sub_cancel, Nat.div_one, List.range'_succ, List.range'_zero, List.forIn_cons, List.forIn_nil]
  go_simp
attribute [local go_sem] eq57

/-- What live has laid. -/
structure Lv (w V : World) (a b c : Nat) : Prop where
  bp : Bk V a 53 #[.int .i64 10, .int .i64 2, .int .i64 3, .int .i64 5]
  br : Bk V b 54 #[.int .i64 0, .int .i64 (-1)]
  bs : Bk V c 54 #[.int .i64 0, .int .i64 4]
  low : Below w.heap.size w V
theorem Lv.next {w V V' : World} {a b c : Nat} (h : Lv w V a b c) (hb : Below V.heap.size V V') : Lv w V' a b c := ⟨h.bp.next hb, h.br.next hb, h.bs.next hb, bmore h.low hb⟩
theorem Lv.cells {w V : World} {a b c : Nat} (h : Lv w V a b c) : (V.cell? ⟨a, 0, none⟩ = some (.int .i64 10) ∧ V.cell? ⟨a, 1, none⟩ = some (.int .i64 2) ∧ V.cell? ⟨a, 2, none⟩ = some (.int .i64 3) ∧ V.cell? ⟨a, 3, none⟩ = some (.int .i64 5)) ∧ (V.cell? ⟨b, 0, none⟩ = some (.int .i64 0) ∧ V.cell? ⟨b, 1, none⟩ = some (.int .i64 (-1))) ∧ V.cell? ⟨c, 0, none⟩ = some (.int .i64 0) ∧ V.cell? ⟨c, 1, none⟩ = some (.int .i64 4) :=
  ⟨⟨h.bp.cell 0 _ rfl, h.bp.cell 1 _ rfl, h.bp.cell 2 _ rfl, h.bp.cell 3 _ rfl⟩, ⟨h.br.cell 0 _ rfl, h.br.cell 1 _ rfl⟩, h.bs.cell 0 _ rfl, h.bs.cell 1 _ rfl⟩
theorem Lv.new (w : World) : Lv w (((w.alloc (.cells #[.int .i64 10, .int .i64 2, .int .i64 3, .int .i64 5] 53)).alloc (.cells #[.int .i64 0, .int .i64 (-1)] 54)).alloc (.cells #[.int .i64 0, .int .i64 4] 54)) w.heap.size (w.heap.size + 1) (w.heap.size + 1 + 1) := by
  refine ⟨((Bk.new _ _ _).alloc _).alloc _, ?_, ?_, ((below_alloc _ _).alloc (by simp) _).alloc (by simp; omega) _⟩
  · have := (Bk.new (w.alloc (.cells #[.int .i64 10, .int .i64 2, .int .i64 3, .int .i64 5] 53)) 54 #[.int .i64 0, .int .i64 (-1)]).alloc (.cells #[.int .i64 0, .int .i64 4] 54)
    rw [size_alloc] at this
    exact this
  · have := Bk.new ((w.alloc (.cells #[.int .i64 10, .int .i64 2, .int .i64 3, .int .i64 5] 53)).alloc (.cells #[.int .i64 0, .int .i64 (-1)] 54)) 54 #[.int .i64 0, .int .i64 4]
    rw [size_alloc, size_alloc] at this
    exact this

set_option maxRecDepth 100000 in
set_option maxHeartbeats 4000000 in
theorem live_any (w : World) : Calls Try.prog 36 #[] w fun e w' => e = .returned (.bool true) ∧ Below w.heap.size w w' := by
  have st := Lv.new w
  have K1 := Lib.hid (show ∀ V : World, Calls Try.prog 25 #[.agg #[.int .i64 10, .int .i64 2, .int .i64 3, .int .i64 5], .agg #[.int .i64 0, .int .i64 (-1)]] V fun e w' => e = .returned (.agg #[.int .i64 0, .int .i64 8, .int .i64 10, .int .i64 13, .int .i64 18]) ∧ Below V.heap.size V w' from fun V => rungs_any 10 2 3 5 0 (-1) V)
  have K2 := Lib.hid (show ∀ V : World, Calls Try.prog 25 #[.agg #[.int .i64 10, .int .i64 2, .int .i64 3, .int .i64 5], .agg #[.int .i64 0, .int .i64 4]] V fun e w' => e = .returned (.agg #[.int .i64 0, .int .i64 4, .int .i64 4, .int .i64 7, .int .i64 12]) ∧ Below V.heap.size V w' from fun V => rungs_any 10 2 3 5 0 4 V)
  have K3 := Lib.hid (show ∀ V : World, Calls Try.prog 32 #[.agg #[.int .i64 10, .int .i64 2, .int .i64 3, .int .i64 5], .agg #[.int .i64 0, .int .i64 (-1)], .int .i64 9] V fun e w' => e = .returned (.int .i64 1) ∧ Below V.heap.size V w' from fun V => stage_any 10 2 3 5 0 (-1) 9 V)
  have K4 := Lib.hid (show ∀ V : World, Calls Try.prog 32 #[.agg #[.int .i64 10, .int .i64 2, .int .i64 3, .int .i64 5], .agg #[.int .i64 0, .int .i64 (-1)], .int .i64 13] V fun e w' => e = .returned (.int .i64 3) ∧ Below V.heap.size V w' from fun V => stage_any 10 2 3 5 0 (-1) 13 V)
  have K5 := Lib.hid (show ∀ V : World, Calls Try.prog 32 #[.agg #[.int .i64 10, .int .i64 2, .int .i64 3, .int .i64 5], .agg #[.int .i64 0, .int .i64 (-1)], .int .i64 (-1)] V fun e w' => e = .returned (.int .i64 (-1)) ∧ Below V.heap.size V w' from fun V => stage_any 10 2 3 5 0 (-1) (-1) V)
  have K6 := Lib.hid (show ∀ V : World, Calls Try.prog 28 #[.agg #[.int .i64 10, .int .i64 2, .int .i64 3, .int .i64 5], .agg #[.int .i64 0, .int .i64 4]] V fun e w' => e = .returned (.int .i64 4) ∧ Below V.heap.size V w' from fun V => end_any 10 2 3 5 0 4 V)
  have K7 := Lib.hid (show ∀ V : World, Calls Try.prog 34 #[.agg #[.int .i64 10, .int .i64 2, .int .i64 3, .int .i64 5], .agg #[.int .i64 0, .int .i64 (-1)], .int .i64 8, .int .i64 13] V (Gives V [2, 3]) from fun V => between_any 10 2 3 5 0 (-1) 8 13 V)
  have K8 := Lib.hid (show ∀ V : World, Calls Try.prog 26 #[.agg #[.int .i64 0, .int .i64 0, .int .i64 0, .int .i64 0]] V fun e w' => e = .returned (.int .i64 1) ∧ Below V.heap.size V w' from fun V => check_any 0 0 0 0 V)
  have K9 := Lib.hid (show ∀ V : World, Calls Try.prog 32 #[.agg #[.int .i64 0, .int .i64 0, .int .i64 0, .int .i64 0], .agg #[.int .i64 0, .int .i64 (-1)], .int .i64 5] V fun e w' => e = .returned (.int .i64 (-1)) ∧ Below V.heap.size V w' from fun V => stage_any 0 0 0 0 0 (-1) 5 V)
  go_enter Try.func36, Try.ntmps36
  go_wp2_with fail
  refine (K1.out _).mono ?_
  rintro x w1 ⟨rfl, hb⟩
  replace st := st.next hb
  obtain ⟨⟨a0, a1, a2, a3⟩, ⟨b0, b1⟩, c0, c1⟩ := st.cells
  clear hb K1
  go_wp2_with fail
  refine (K2.out _).mono ?_
  rintro x w2 ⟨rfl, hb⟩
  replace st := st.next hb
  clear a0 a1 a2 a3 b0 b1 c0 c1
  obtain ⟨⟨a0, a1, a2, a3⟩, ⟨b0, b1⟩, c0, c1⟩ := st.cells
  clear hb K2
  go_wp2_with fail
  refine (K3.out _).mono ?_
  rintro x w3 ⟨rfl, hb⟩
  replace st := st.next hb
  clear a0 a1 a2 a3 b0 b1 c0 c1
  obtain ⟨⟨a0, a1, a2, a3⟩, ⟨b0, b1⟩, c0, c1⟩ := st.cells
  clear hb K3
  go_wp2_with fail
  refine (K4.out _).mono ?_
  rintro x w4 ⟨rfl, hb⟩
  replace st := st.next hb
  clear a0 a1 a2 a3 b0 b1 c0 c1
  obtain ⟨⟨a0, a1, a2, a3⟩, ⟨b0, b1⟩, c0, c1⟩ := st.cells
  clear hb K4
  go_wp2_with fail
  refine (K5.out _).mono ?_
  rintro x w5 ⟨rfl, hb⟩
  replace st := st.next hb
  clear a0 a1 a2 a3 b0 b1 c0 c1
  obtain ⟨⟨a0, a1, a2, a3⟩, ⟨b0, b1⟩, c0, c1⟩ := st.cells
  clear hb K5
  go_wp2_with fail
  refine (K6.out _).mono ?_
  rintro x w6 ⟨rfl, hb⟩
  replace st := st.next hb
  clear a0 a1 a2 a3 b0 b1 c0 c1
  obtain ⟨⟨a0, a1, a2, a3⟩, ⟨b0, b1⟩, c0, c1⟩ := st.cells
  clear hb K6
  go_wp2_with fail
  refine (K7.out _).mono ?_
  rintro x w7 ⟨v, rfl, hrow, hb⟩
  obtain ⟨A, cap, rfl⟩ := own_form hrow
  have hz := ints_iv rfl hrow
  replace st := st.next hb
  clear hb K7 hrow a0 a1 a2 a3 b0 b1 c0 c1
  have kn := Bk.new w7 3 #[.int .i64 2, .int .i64 3]
  have lb := below_alloc w7 (.cells #[.int .i64 2, .int .i64 3] 3)
  replace st := st.next lb
  replace hz := hz.next lb
  have hz2 : IntsAt (w7.alloc (.cells #[.int .i64 2, .int .i64 3] 3)) (some ⟨w7.heap.size, 0, none⟩) [2, 3] := by
    refine .inr ⟨_, rfl, kn.lt, fun j hj => ?_⟩
    match j, hj with
    | 0, _ => exact kn.cell 0 _ rfl
    | 1, _ => exact kn.cell 1 _ rfl
  clear lb kn
  go_wp2_with fail
  refine (same_eq _ _ _ _ 2 [2, 3] _ hz hz2 rfl (by unfold maxLen; omega)).mono ?_
  rintro x w7' ⟨rfl, hb⟩
  replace st := st.next hb
  clear hz hz2
  obtain ⟨⟨a0, a1, a2, a3⟩, ⟨b0, b1⟩, c0, c1⟩ := st.cells
  clear hb
  go_wp2_with fail
  refine (K8.out _).mono ?_
  rintro x w8 ⟨rfl, hb⟩
  replace st := st.next hb
  clear a0 a1 a2 a3 b0 b1 c0 c1
  obtain ⟨⟨a0, a1, a2, a3⟩, ⟨b0, b1⟩, c0, c1⟩ := st.cells
  clear hb K8
  go_wp2_with fail
  refine (K9.out _).mono ?_
  rintro x w9 ⟨rfl, hb⟩
  replace st := st.next hb
  clear a0 a1 a2 a3 b0 b1 c0 c1
  obtain ⟨⟨a0, a1, a2, a3⟩, ⟨b0, b1⟩, c0, c1⟩ := st.cells
  clear hb K9
  go_wp2_with fail
  go_ret
  exact ⟨rfl, st.low⟩
end Go.Proofs.Ytinbaepligploaa
