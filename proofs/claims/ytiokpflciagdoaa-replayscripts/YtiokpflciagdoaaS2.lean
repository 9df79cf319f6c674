/- The document's Check of a credential. -/
import Derived.Test.YtiokpflciagdoaaS1
namespace Go.Proofs.Ytiokpflciagdoaa
open Go.RowKit

theorem below_drewN {B : Nat} {a w : World} (h : Below B a w) (n : Nat) : Below B a (w.drewN n) := ⟨h.os, h.tape, h.output, h.size, h.block⟩

set_option maxRecDepth 100000 in
set_option maxHeartbeats 1000000 in
theorem rcheck_bad0 (j e s f u : Int) (A : Option Addr) (n cap : Nat) (c : Int) (w : World)  (g0 : numB j = false) :
    Calls Try.prog 20 #[.agg #[.int .i64 j, .int .i64 e, .int .i64 s, .int .i64 f, .int .i64 u, .slice A n cap, .int .i64 c]] w fun x w' => x = .returned (.int .i64 1) ∧ Below w.heap.size w w' := by
  have k0 := Bk.new w 31 #[.int .i64 j, .int .i64 e, .int .i64 s, .int .i64 f, .int .i64 u, .slice A n cap, .int .i64 c]
  have hb0 := below_alloc w (.cells #[.int .i64 j, .int .i64 e, .int .i64 s, .int .i64 f, .int .i64 u, .slice A n cap, .int .i64 c] 31)
  have q0 := k0.cell 0 _ rfl
  have q1 := k0.cell 1 _ rfl
  have q2 := k0.cell 2 _ rfl
  have q3 := k0.cell 3 _ rfl
  have q4 := k0.cell 4 _ rfl
  have q5 := k0.cell 5 _ rfl
  have q6 := k0.cell 6 _ rfl
  have K0 := Lib.hid (fun V => number_any j V)
  rw [g0] at K0
  clear g0
  go_enter Try.func20, Try.ntmps20
  go_wp2_with fail
  refine (K0.out _).mono ?_
  rintro x V0 ⟨rfl, rfl⟩
  clear K0
  go_wp2_with fail
  go_ret
  exact ⟨rfl, hb0⟩
set_option maxRecDepth 100000 in
set_option maxHeartbeats 1000000 in
theorem rcheck_bad1 (j e s f u : Int) (A : Option Addr) (n cap : Nat) (c : Int) (w : World) (g0 : numB j = true) (g1 : numB s = false) :
    Calls Try.prog 20 #[.agg #[.int .i64 j, .int .i64 e, .int .i64 s, .int .i64 f, .int .i64 u, .slice A n cap, .int .i64 c]] w fun x w' => x = .returned (.int .i64 1) ∧ Below w.heap.size w w' := by
  have k0 := Bk.new w 31 #[.int .i64 j, .int .i64 e, .int .i64 s, .int .i64 f, .int .i64 u, .slice A n cap, .int .i64 c]
  have hb0 := below_alloc w (.cells #[.int .i64 j, .int .i64 e, .int .i64 s, .int .i64 f, .int .i64 u, .slice A n cap, .int .i64 c] 31)
  have q0 := k0.cell 0 _ rfl
  have q1 := k0.cell 1 _ rfl
  have q2 := k0.cell 2 _ rfl
  have q3 := k0.cell 3 _ rfl
  have q4 := k0.cell 4 _ rfl
  have q5 := k0.cell 5 _ rfl
  have q6 := k0.cell 6 _ rfl
  have K0 := Lib.hid (fun V => number_any j V)
  rw [g0] at K0
  clear g0
  have K1 := Lib.hid (fun V => number_any s V)
  rw [g1] at K1
  clear g1
  go_enter Try.func20, Try.ntmps20
  go_wp2_with fail
  refine (K0.out _).mono ?_
  rintro x V0 ⟨rfl, rfl⟩
  clear K0
  go_wp2_with fail
  refine (K1.out _).mono ?_
  rintro x V1 ⟨rfl, rfl⟩
  clear K1
  go_wp2_with fail
  go_ret
  exact ⟨rfl, hb0⟩
set_option maxRecDepth 100000 in
set_option maxHeartbeats 1000000 in
theorem rcheck_bad2 (j e s f u : Int) (A : Option Addr) (n cap : Nat) (c : Int) (w : World) (g0 : numB j = true) (g1 : numB s = true) (g2 : numB f = false) :
    Calls Try.prog 20 #[.agg #[.int .i64 j, .int .i64 e, .int .i64 s, .int .i64 f, .int .i64 u, .slice A n cap, .int .i64 c]] w fun x w' => x = .returned (.int .i64 1) ∧ Below w.heap.size w w' := by
  have k0 := Bk.new w 31 #[.int .i64 j, .int .i64 e, .int .i64 s, .int .i64 f, .int .i64 u, .slice A n cap, .int .i64 c]
  have hb0 := below_alloc w (.cells #[.int .i64 j, .int .i64 e, .int .i64 s, .int .i64 f, .int .i64 u, .slice A n cap, .int .i64 c] 31)
  have q0 := k0.cell 0 _ rfl
  have q1 := k0.cell 1 _ rfl
  have q2 := k0.cell 2 _ rfl
  have q3 := k0.cell 3 _ rfl
  have q4 := k0.cell 4 _ rfl
  have q5 := k0.cell 5 _ rfl
  have q6 := k0.cell 6 _ rfl
  have K0 := Lib.hid (fun V => number_any j V)
  rw [g0] at K0
  clear g0
  have K1 := Lib.hid (fun V => number_any s V)
  rw [g1] at K1
  clear g1
  have K2 := Lib.hid (fun V => number_any f V)
  rw [g2] at K2
  clear g2
  go_enter Try.func20, Try.ntmps20
  go_wp2_with fail
  refine (K0.out _).mono ?_
  rintro x V0 ⟨rfl, rfl⟩
  clear K0
  go_wp2_with fail
  refine (K1.out _).mono ?_
  rintro x V1 ⟨rfl, rfl⟩
  clear K1
  go_wp2_with fail
  refine (K2.out _).mono ?_
  rintro x V2 ⟨rfl, rfl⟩
  clear K2
  go_wp2_with fail
  go_ret
  exact ⟨rfl, hb0⟩
set_option maxRecDepth 100000 in
set_option maxHeartbeats 1000000 in
theorem rcheck_bad3 (j e s f u : Int) (A : Option Addr) (n cap : Nat) (c : Int) (w : World) (g0 : numB j = true) (g1 : numB s = true) (g2 : numB f = true) (g3 : numB u = false) :
    Calls Try.prog 20 #[.agg #[.int .i64 j, .int .i64 e, .int .i64 s, .int .i64 f, .int .i64 u, .slice A n cap, .int .i64 c]] w fun x w' => x = .returned (.int .i64 1) ∧ Below w.heap.size w w' := by
  have k0 := Bk.new w 31 #[.int .i64 j, .int .i64 e, .int .i64 s, .int .i64 f, .int .i64 u, .slice A n cap, .int .i64 c]
  have hb0 := below_alloc w (.cells #[.int .i64 j, .int .i64 e, .int .i64 s, .int .i64 f, .int .i64 u, .slice A n cap, .int .i64 c] 31)
  have q0 := k0.cell 0 _ rfl
  have q1 := k0.cell 1 _ rfl
  have q2 := k0.cell 2 _ rfl
  have q3 := k0.cell 3 _ rfl
  have q4 := k0.cell 4 _ rfl
  have q5 := k0.cell 5 _ rfl
  have q6 := k0.cell 6 _ rfl
  have K0 := Lib.hid (fun V => number_any j V)
  rw [g0] at K0
  clear g0
  have K1 := Lib.hid (fun V => number_any s V)
  rw [g1] at K1
  clear g1
  have K2 := Lib.hid (fun V => number_any f V)
  rw [g2] at K2
  clear g2
  have K3 := Lib.hid (fun V => number_any u V)
  rw [g3] at K3
  clear g3
  go_enter Try.func20, Try.ntmps20
  go_wp2_with fail
  refine (K0.out _).mono ?_
  rintro x V0 ⟨rfl, rfl⟩
  clear K0
  go_wp2_with fail
  refine (K1.out _).mono ?_
  rintro x V1 ⟨rfl, rfl⟩
  clear K1
  go_wp2_with fail
  refine (K2.out _).mono ?_
  rintro x V2 ⟨rfl, rfl⟩
  clear K2
  go_wp2_with fail
  refine (K3.out _).mono ?_
  rintro x V3 ⟨rfl, rfl⟩
  clear K3
  go_wp2_with fail
  go_ret
  exact ⟨rfl, hb0⟩
set_option maxRecDepth 100000 in
set_option maxHeartbeats 1000000 in
theorem rcheck_bad4 (j e s f u : Int) (A : Option Addr) (n cap : Nat) (c : Int) (w : World) (g0 : numB j = true) (g1 : numB s = true) (g2 : numB f = true) (g3 : numB u = true) (g4 : e < 0) :
    Calls Try.prog 20 #[.agg #[.int .i64 j, .int .i64 e, .int .i64 s, .int .i64 f, .int .i64 u, .slice A n cap, .int .i64 c]] w fun x w' => x = .returned (.int .i64 1) ∧ Below w.heap.size w w' := by
  have k0 := Bk.new w 31 #[.int .i64 j, .int .i64 e, .int .i64 s, .int .i64 f, .int .i64 u, .slice A n cap, .int .i64 c]
  have hb0 := below_alloc w (.cells #[.int .i64 j, .int .i64 e, .int .i64 s, .int .i64 f, .int .i64 u, .slice A n cap, .int .i64 c] 31)
  have q0 := k0.cell 0 _ rfl
  have q1 := k0.cell 1 _ rfl
  have q2 := k0.cell 2 _ rfl
  have q3 := k0.cell 3 _ rfl
  have q4 := k0.cell 4 _ rfl
  have q5 := k0.cell 5 _ rfl
  have q6 := k0.cell 6 _ rfl
  have K0 := Lib.hid (fun V => number_any j V)
  rw [g0] at K0
  clear g0
  have K1 := Lib.hid (fun V => number_any s V)
  rw [g1] at K1
  clear g1
  have K2 := Lib.hid (fun V => number_any f V)
  rw [g2] at K2
  clear g2
  have K3 := Lib.hid (fun V => number_any u V)
  rw [g3] at K3
  clear g3
  have t4 : decide (e < 0) = true := by simpa using g4
  go_enter Try.func20, Try.ntmps20
  go_wp2_with fail
  refine (K0.out _).mono ?_
  rintro x V0 ⟨rfl, rfl⟩
  clear K0
  go_wp2_with fail
  refine (K1.out _).mono ?_
  rintro x V1 ⟨rfl, rfl⟩
  clear K1
  go_wp2_with fail
  refine (K2.out _).mono ?_
  rintro x V2 ⟨rfl, rfl⟩
  clear K2
  go_wp2_with fail
  refine (K3.out _).mono ?_
  rintro x V3 ⟨rfl, rfl⟩
  clear K3
  go_wp2_with fail
  go_ret
  exact ⟨rfl, hb0⟩
set_option maxRecDepth 100000 in
set_option maxHeartbeats 1000000 in
theorem rcheck_bad5 (j e s f u : Int) (A : Option Addr) (n cap : Nat) (c : Int) (w : World) (g0 : numB j = true) (g1 : numB s = true) (g2 : numB f = true) (g3 : numB u = true) (g4 : ¬ e < 0) (g5 : 8 < e) :
    Calls Try.prog 20 #[.agg #[.int .i64 j, .int .i64 e, .int .i64 s, .int .i64 f, .int .i64 u, .slice A n cap, .int .i64 c]] w fun x w' => x = .returned (.int .i64 1) ∧ Below w.heap.size w w' := by
  have k0 := Bk.new w 31 #[.int .i64 j, .int .i64 e, .int .i64 s, .int .i64 f, .int .i64 u, .slice A n cap, .int .i64 c]
  have hb0 := below_alloc w (.cells #[.int .i64 j, .int .i64 e, .int .i64 s, .int .i64 f, .int .i64 u, .slice A n cap, .int .i64 c] 31)
  have q0 := k0.cell 0 _ rfl
  have q1 := k0.cell 1 _ rfl
  have q2 := k0.cell 2 _ rfl
  have q3 := k0.cell 3 _ rfl
  have q4 := k0.cell 4 _ rfl
  have q5 := k0.cell 5 _ rfl
  have q6 := k0.cell 6 _ rfl
  have K0 := Lib.hid (fun V => number_any j V)
  rw [g0] at K0
  clear g0
  have K1 := Lib.hid (fun V => number_any s V)
  rw [g1] at K1
  clear g1
  have K2 := Lib.hid (fun V => number_any f V)
  rw [g2] at K2
  clear g2
  have K3 := Lib.hid (fun V => number_any u V)
  rw [g3] at K3
  clear g3
  have t4 : decide (e < 0) = false := by simpa using g4
  have t5 : decide (8 < e) = true := by simpa using g5
  go_enter Try.func20, Try.ntmps20
  go_wp2_with fail
  refine (K0.out _).mono ?_
  rintro x V0 ⟨rfl, rfl⟩
  clear K0
  go_wp2_with fail
  refine (K1.out _).mono ?_
  rintro x V1 ⟨rfl, rfl⟩
  clear K1
  go_wp2_with fail
  refine (K2.out _).mono ?_
  rintro x V2 ⟨rfl, rfl⟩
  clear K2
  go_wp2_with fail
  refine (K3.out _).mono ?_
  rintro x V3 ⟨rfl, rfl⟩
  clear K3
  go_wp2_with fail
  go_ret
  exact ⟨rfl, hb0⟩
set_option maxRecDepth 100000 in
set_option maxHeartbeats 1000000 in
theorem rcheck_bad6 (j e s f u : Int) (A : Option Addr) (n cap : Nat) (c : Int) (w : World) (g0 : numB j = true) (g1 : numB s = true) (g2 : numB f = true) (g3 : numB u = true) (g4 : ¬ e < 0) (g5 : ¬ 8 < e) (g6 : c < 1) :
    Calls Try.prog 20 #[.agg #[.int .i64 j, .int .i64 e, .int .i64 s, .int .i64 f, .int .i64 u, .slice A n cap, .int .i64 c]] w fun x w' => x = .returned (.int .i64 1) ∧ Below w.heap.size w w' := by
  have k0 := Bk.new w 31 #[.int .i64 j, .int .i64 e, .int .i64 s, .int .i64 f, .int .i64 u, .slice A n cap, .int .i64 c]
  have hb0 := below_alloc w (.cells #[.int .i64 j, .int .i64 e, .int .i64 s, .int .i64 f, .int .i64 u, .slice A n cap, .int .i64 c] 31)
  have q0 := k0.cell 0 _ rfl
  have q1 := k0.cell 1 _ rfl
  have q2 := k0.cell 2 _ rfl
  have q3 := k0.cell 3 _ rfl
  have q4 := k0.cell 4 _ rfl
  have q5 := k0.cell 5 _ rfl
  have q6 := k0.cell 6 _ rfl
  have K0 := Lib.hid (fun V => number_any j V)
  rw [g0] at K0
  clear g0
  have K1 := Lib.hid (fun V => number_any s V)
  rw [g1] at K1
  clear g1
  have K2 := Lib.hid (fun V => number_any f V)
  rw [g2] at K2
  clear g2
  have K3 := Lib.hid (fun V => number_any u V)
  rw [g3] at K3
  clear g3
  have t4 : decide (e < 0) = false := by simpa using g4
  have t5 : decide (8 < e) = false := by simpa using g5
  have t6 : decide (c < 1) = true := by simpa using g6
  go_enter Try.func20, Try.ntmps20
  go_wp2_with fail
  refine (K0.out _).mono ?_
  rintro x V0 ⟨rfl, rfl⟩
  clear K0
  go_wp2_with fail
  refine (K1.out _).mono ?_
  rintro x V1 ⟨rfl, rfl⟩
  clear K1
  go_wp2_with fail
  refine (K2.out _).mono ?_
  rintro x V2 ⟨rfl, rfl⟩
  clear K2
  go_wp2_with fail
  refine (K3.out _).mono ?_
  rintro x V3 ⟨rfl, rfl⟩
  clear K3
  go_wp2_with fail
  go_ret
  exact ⟨rfl, hb0⟩
set_option maxRecDepth 100000 in
set_option maxHeartbeats 1000000 in
theorem rcheck_bad7 (j e s f u : Int) (A : Option Addr) (n cap : Nat) (c : Int) (w : World) (g0 : numB j = true) (g1 : numB s = true) (g2 : numB f = true) (g3 : numB u = true) (g4 : ¬ e < 0) (g5 : ¬ 8 < e) (g6 : ¬ c < 1) (g7 : 256 < c) :
    Calls Try.prog 20 #[.agg #[.int .i64 j, .int .i64 e, .int .i64 s, .int .i64 f, .int .i64 u, .slice A n cap, .int .i64 c]] w fun x w' => x = .returned (.int .i64 1) ∧ Below w.heap.size w w' := by
  have k0 := Bk.new w 31 #[.int .i64 j, .int .i64 e, .int .i64 s, .int .i64 f, .int .i64 u, .slice A n cap, .int .i64 c]
  have hb0 := below_alloc w (.cells #[.int .i64 j, .int .i64 e, .int .i64 s, .int .i64 f, .int .i64 u, .slice A n cap, .int .i64 c] 31)
  have q0 := k0.cell 0 _ rfl
  have q1 := k0.cell 1 _ rfl
  have q2 := k0.cell 2 _ rfl
  have q3 := k0.cell 3 _ rfl
  have q4 := k0.cell 4 _ rfl
  have q5 := k0.cell 5 _ rfl
  have q6 := k0.cell 6 _ rfl
  have K0 := Lib.hid (fun V => number_any j V)
  rw [g0] at K0
  clear g0
  have K1 := Lib.hid (fun V => number_any s V)
  rw [g1] at K1
  clear g1
  have K2 := Lib.hid (fun V => number_any f V)
  rw [g2] at K2
  clear g2
  have K3 := Lib.hid (fun V => number_any u V)
  rw [g3] at K3
  clear g3
  have t4 : decide (e < 0) = false := by simpa using g4
  have t5 : decide (8 < e) = false := by simpa using g5
  have t6 : decide (c < 1) = false := by simpa using g6
  have t7 : decide (256 < c) = true := by simpa using g7
  go_enter Try.func20, Try.ntmps20
  go_wp2_with fail
  refine (K0.out _).mono ?_
  rintro x V0 ⟨rfl, rfl⟩
  clear K0
  go_wp2_with fail
  refine (K1.out _).mono ?_
  rintro x V1 ⟨rfl, rfl⟩
  clear K1
  go_wp2_with fail
  refine (K2.out _).mono ?_
  rintro x V2 ⟨rfl, rfl⟩
  clear K2
  go_wp2_with fail
  refine (K3.out _).mono ?_
  rintro x V3 ⟨rfl, rfl⟩
  clear K3
  go_wp2_with fail
  go_ret
  exact ⟨rfl, hb0⟩
set_option maxRecDepth 100000 in
set_option maxHeartbeats 1000000 in
theorem rcheck_bad8 (j e s f u : Int) (A : Option Addr) (n cap : Nat) (c : Int) (w : World) (g0 : numB j = true) (g1 : numB s = true) (g2 : numB f = true) (g3 : numB u = true) (g4 : ¬ e < 0) (g5 : ¬ 8 < e) (g6 : ¬ c < 1) (g7 : ¬ 256 < c) (g8 : (n : Int) < 1) :
    Calls Try.prog 20 #[.agg #[.int .i64 j, .int .i64 e, .int .i64 s, .int .i64 f, .int .i64 u, .slice A n cap, .int .i64 c]] w fun x w' => x = .returned (.int .i64 1) ∧ Below w.heap.size w w' := by
  have k0 := Bk.new w 31 #[.int .i64 j, .int .i64 e, .int .i64 s, .int .i64 f, .int .i64 u, .slice A n cap, .int .i64 c]
  have hb0 := below_alloc w (.cells #[.int .i64 j, .int .i64 e, .int .i64 s, .int .i64 f, .int .i64 u, .slice A n cap, .int .i64 c] 31)
  have q0 := k0.cell 0 _ rfl
  have q1 := k0.cell 1 _ rfl
  have q2 := k0.cell 2 _ rfl
  have q3 := k0.cell 3 _ rfl
  have q4 := k0.cell 4 _ rfl
  have q5 := k0.cell 5 _ rfl
  have q6 := k0.cell 6 _ rfl
  have K0 := Lib.hid (fun V => number_any j V)
  rw [g0] at K0
  clear g0
  have K1 := Lib.hid (fun V => number_any s V)
  rw [g1] at K1
  clear g1
  have K2 := Lib.hid (fun V => number_any f V)
  rw [g2] at K2
  clear g2
  have K3 := Lib.hid (fun V => number_any u V)
  rw [g3] at K3
  clear g3
  have t4 : decide (e < 0) = false := by simpa using g4
  have t5 : decide (8 < e) = false := by simpa using g5
  have t6 : decide (c < 1) = false := by simpa using g6
  have t7 : decide (256 < c) = false := by simpa using g7
  have t8 : decide ((n : Int) < 1) = true := by simpa using g8
  go_enter Try.func20, Try.ntmps20
  go_wp2_with fail
  refine (K0.out _).mono ?_
  rintro x V0 ⟨rfl, rfl⟩
  clear K0
  go_wp2_with fail
  refine (K1.out _).mono ?_
  rintro x V1 ⟨rfl, rfl⟩
  clear K1
  go_wp2_with fail
  refine (K2.out _).mono ?_
  rintro x V2 ⟨rfl, rfl⟩
  clear K2
  go_wp2_with fail
  refine (K3.out _).mono ?_
  rintro x V3 ⟨rfl, rfl⟩
  clear K3
  go_wp2_with fail
  go_ret
  exact ⟨rfl, hb0⟩
set_option maxRecDepth 100000 in
set_option maxHeartbeats 1000000 in
theorem rcheck_bad9 (j e s f u : Int) (A : Option Addr) (n cap : Nat) (c : Int) (w : World) (g0 : numB j = true) (g1 : numB s = true) (g2 : numB f = true) (g3 : numB u = true) (g4 : ¬ e < 0) (g5 : ¬ 8 < e) (g6 : ¬ c < 1) (g7 : ¬ 256 < c) (g8 : ¬ (n : Int) < 1) (g9 : 16 < (n : Int)) :
    Calls Try.prog 20 #[.agg #[.int .i64 j, .int .i64 e, .int .i64 s, .int .i64 f, .int .i64 u, .slice A n cap, .int .i64 c]] w fun x w' => x = .returned (.int .i64 1) ∧ Below w.heap.size w w' := by
  have k0 := Bk.new w 31 #[.int .i64 j, .int .i64 e, .int .i64 s, .int .i64 f, .int .i64 u, .slice A n cap, .int .i64 c]
  have hb0 := below_alloc w (.cells #[.int .i64 j, .int .i64 e, .int .i64 s, .int .i64 f, .int .i64 u, .slice A n cap, .int .i64 c] 31)
  have q0 := k0.cell 0 _ rfl
  have q1 := k0.cell 1 _ rfl
  have q2 := k0.cell 2 _ rfl
  have q3 := k0.cell 3 _ rfl
  have q4 := k0.cell 4 _ rfl
  have q5 := k0.cell 5 _ rfl
  have q6 := k0.cell 6 _ rfl
  have K0 := Lib.hid (fun V => number_any j V)
  rw [g0] at K0
  clear g0
  have K1 := Lib.hid (fun V => number_any s V)
  rw [g1] at K1
  clear g1
  have K2 := Lib.hid (fun V => number_any f V)
  rw [g2] at K2
  clear g2
  have K3 := Lib.hid (fun V => number_any u V)
  rw [g3] at K3
  clear g3
  have t4 : decide (e < 0) = false := by simpa using g4
  have t5 : decide (8 < e) = false := by simpa using g5
  have t6 : decide (c < 1) = false := by simpa using g6
  have t7 : decide (256 < c) = false := by simpa using g7
  have t8 : decide ((n : Int) < 1) = false := by simpa using g8
  have t9 : decide (16 < (n : Int)) = true := by simpa using g9
  go_enter Try.func20, Try.ntmps20
  go_wp2_with fail
  refine (K0.out _).mono ?_
  rintro x V0 ⟨rfl, rfl⟩
  clear K0
  go_wp2_with fail
  refine (K1.out _).mono ?_
  rintro x V1 ⟨rfl, rfl⟩
  clear K1
  go_wp2_with fail
  refine (K2.out _).mono ?_
  rintro x V2 ⟨rfl, rfl⟩
  clear K2
  go_wp2_with fail
  refine (K3.out _).mono ?_
  rintro x V3 ⟨rfl, rfl⟩
  clear K3
  go_wp2_with fail
  go_ret
  exact ⟨rfl, hb0⟩
set_option maxRecDepth 100000 in
set_option maxHeartbeats 10000000 in
theorem rcheck_go (j e s f u : Int) (A : Option Addr) (n cap : Nat) (c : Int) (zs : List Int) (w : World) (hz : IntsAt w A zs) (hn : zs.length = n) (g0 : numB j = true) (g1 : numB s = true) (g2 : numB f = true) (g3 : numB u = true) (g4 : ¬ e < 0) (g5 : ¬ 8 < e) (g6 : ¬ c < 1) (g7 : ¬ 256 < c) (g8 : ¬ (n : Int) < 1) (g9 : ¬ 16 < (n : Int)) :
    Calls Try.prog 20 #[.agg #[.int .i64 j, .int .i64 e, .int .i64 s, .int .i64 f, .int .i64 u, .slice A n cap, .int .i64 c]] w fun x w' => x = .returned (.int .i64 (oneIf (!rises (-1) zs))) ∧ Below w.heap.size w w' := by
  have k0 := Bk.new w 31 #[.int .i64 j, .int .i64 e, .int .i64 s, .int .i64 f, .int .i64 u, .slice A n cap, .int .i64 c]
  have hb0 := below_alloc w (.cells #[.int .i64 j, .int .i64 e, .int .i64 s, .int .i64 f, .int .i64 u, .slice A n cap, .int .i64 c] 31)
  have q0 := k0.cell 0 _ rfl
  have q1 := k0.cell 1 _ rfl
  have q2 := k0.cell 2 _ rfl
  have q3 := k0.cell 3 _ rfl
  have q4 := k0.cell 4 _ rfl
  have q5 := k0.cell 5 _ rfl
  have q6 := k0.cell 6 _ rfl
  have K0 := Lib.hid (fun V => number_any j V)
  rw [g0] at K0
  clear g0
  have K1 := Lib.hid (fun V => number_any s V)
  rw [g1] at K1
  clear g1
  have K2 := Lib.hid (fun V => number_any f V)
  rw [g2] at K2
  clear g2
  have K3 := Lib.hid (fun V => number_any u V)
  rw [g3] at K3
  clear g3
  have t4 : decide (e < 0) = false := by simpa using g4
  have t5 : decide (8 < e) = false := by simpa using g5
  have t6 : decide (c < 1) = false := by simpa using g6
  have t7 : decide (256 < c) = false := by simpa using g7
  have t8 : decide ((n : Int) < 1) = false := by simpa using g8
  have t9 : decide (16 < (n : Int)) = false := by simpa using g9
  have hz0 := hz.next hb0
  clear hz
  have HN := Lib.hid hn
  clear hn
  go_enter Try.func20, Try.ntmps20
  go_wp2_with fail
  refine (K0.out _).mono ?_
  rintro x V0 ⟨rfl, rfl⟩
  clear K0
  go_wp2_with fail
  refine (K1.out _).mono ?_
  rintro x V1 ⟨rfl, rfl⟩
  clear K1
  go_wp2_with fail
  refine (K2.out _).mono ?_
  rintro x V2 ⟨rfl, rfl⟩
  clear K2
  go_wp2_with fail
  refine (K3.out _).mono ?_
  rintro x V3 ⟨rfl, rfl⟩
  clear K3
  go_wp2_with fail
  clear q0 q1 q2 q3 q4 q5 q6
  generalize w.alloc (.cells #[.int .i64 j, .int .i64 e, .int .i64 s, .int .i64 f, .int .i64 u, .slice A n cap, .int .i64 c] 31) = V at *
  go_loopw [3] (fun i wr => ∃ (k : Nat) (last : Int), k ≤ n ∧ i = .int .i64 k ∧ Hid (rises (-1) zs = rises last (zs.drop k)) ∧ Hid ((k = 0 ∧ last = -1) ∨ (0 < k ∧ last = zs.getD (k - 1) 0 ∧ 0 ≤ last)) ∧ Bk wr w.heap.size 31 #[.int .i64 j, .int .i64 e, .int .i64 s, .int .i64 f, .int .i64 u, .slice A n cap, .int .i64 c] ∧ IntsAt wr A zs ∧ Below w.heap.size w wr) (fun i _ => n - (intOf i).toNat)
  case atStart => exact ⟨0, -1, Nat.zero_le _, rfl, Lib.hid (by rw [List.drop_zero]), Lib.hid (Or.inl ⟨rfl, rfl⟩), k0, hz0, hb0⟩
  case round =>
    clear k0 hz0 hb0
    obtain ⟨k, last, hk, rfl, HR, HL, k0, hz0, hb0⟩ := hrel
    have q5 := k0.cell 5 _ rfl
    by_cases hlt : k < n
    · obtain ⟨ad, rfl, hbl, hc⟩ := hz0.at_ (k := k) (by rw [HN.out]; exact hlt)
      have HD := Lib.hid (drop_at zs k (by rw [HN.out]; exact hlt))
      by_cases hk0 : 0 < k
      · obtain ⟨_, e1, _, hc1⟩ := hz0.at_ (k := k - 1) (by rw [HN.out]; omega)
        cases e1
        have hl : last = zs.getD (k - 1) 0 ∧ 0 ≤ last := by
          rcases HL.out with h | h
          · omega
          · exact h.2
        have hl0 := hl.2
        rw [← hl.1] at hc1
        clear hl
        obtain ⟨z, hzd⟩ : ∃ z, z = zs.getD k 0 := ⟨_, rfl⟩
        have HZ := Lib.hid hzd
        rw [← hzd] at hc HD
        clear hzd
        have hw1 : IntKind.i64.wrap ((k : Int) - 1) = ((k - 1 : Nat) : Int) := by rw [IntWalk.i64_in _ (by omega)]; omega
        have tk : decide ((0 : Int) < (k : Int)) = true := by simp; omega
        by_cases h1 : z < 0
        · have s1 : decide (z < 0) = true := by simpa using h1
          go_wp2_with fail
          go_quiet (fail)
          replace k0 : Bk (wr.drewN nq) w.heap.size 31 _ := k0
          replace hb0 := below_drewN hb0 nq
          replace hz0 : IntsAt (wr.drewN nq) (some ad) zs := hz0
          generalize wr.drewN nq = w2 at *
          go_wp2_with fail
          go_ret
          have hf : rises (-1) zs = false := by rw [HR.out, HD.out]; unfold rises; rw [if_pos (Or.inl (by omega))]
          exact ⟨by rw [hf]; rfl, hb0⟩
        · have s1 : decide (z < 0) = false := by simpa using h1
          by_cases h2 : 15 < z
          · have s2 : decide (15 < z) = true := by simpa using h2
            go_wp2_with fail
            go_quiet (fail)
            replace k0 : Bk (wr.drewN nq) w.heap.size 31 _ := k0
            replace hb0 := below_drewN hb0 nq
            replace hz0 : IntsAt (wr.drewN nq) (some ad) zs := hz0
            generalize wr.drewN nq = w2 at *
            go_wp2_with fail
            go_ret
            have hf : rises (-1) zs = false := by rw [HR.out, HD.out]; unfold rises; rw [if_pos (Or.inr (by omega))]
            exact ⟨by rw [hf]; rfl, hb0⟩
          · have s2 : decide (15 < z) = false := by simpa using h2
            by_cases h3 : z ≤ last
            · have s3 : decide (z ≤ last) = true := by simpa using h3
              go_wp2_with fail
              go_quiet (fail)
              replace k0 : Bk (wr.drewN nq) w.heap.size 31 _ := k0
              replace hb0 := below_drewN hb0 nq
              replace hz0 : IntsAt (wr.drewN nq) (some ad) zs := hz0
              generalize wr.drewN nq = w2 at *
              go_wp2_with fail
              go_ret
              have hf : rises (-1) zs = false := by rw [HR.out, HD.out]; unfold rises; rw [if_pos (Or.inl h3)]
              exact ⟨by rw [hf]; rfl, hb0⟩
            · have s3 : decide (z ≤ last) = false := by simpa using h3
              go_wp2_with fail
              go_quiet (fail)
              replace k0 : Bk (wr.drewN nq) w.heap.size 31 _ := k0
              replace hb0 := below_drewN hb0 nq
              replace hz0 : IntsAt (wr.drewN nq) (some ad) zs := hz0
              generalize wr.drewN nq = w2 at *
              go_wp2_with fail
              go_roundw
              case rel => exact ⟨k + 1, z, by omega, by go_num, Lib.hid (by rw [HR.out, HD.out, rises_go (by omega)]), Lib.hid (Or.inr ⟨by omega, by rw [Nat.add_sub_cancel]; exact HZ.out, by omega⟩), k0, hz0, hb0⟩
              case measure => simp [intOf]; omega
      · have tk : decide ((0 : Int) < (k : Int)) = false := by simp; omega
        have hl : last = -1 := by
          rcases HL.out with h | h
          · exact h.2
          · omega
        have HLL := Lib.hid hl
        clear hl
        obtain ⟨z, hzd⟩ : ∃ z, z = zs.getD k 0 := ⟨_, rfl⟩
        have HZ := Lib.hid hzd
        rw [← hzd] at hc HD
        clear hzd
        by_cases h1 : z < 0
        · have s1 : decide (z < 0) = true := by simpa using h1
          go_wp2_with fail
          go_quiet (fail)
          replace k0 : Bk (wr.drewN nq) w.heap.size 31 _ := k0
          replace hb0 := below_drewN hb0 nq
          replace hz0 : IntsAt (wr.drewN nq) (some ad) zs := hz0
          generalize wr.drewN nq = w2 at *
          go_wp2_with fail
          go_ret
          have hf : rises (-1) zs = false := by rw [HR.out, HD.out]; unfold rises; rw [if_pos (Or.inl (by rw [HLL.out]; omega))]
          exact ⟨by rw [hf]; rfl, hb0⟩
        · have s1 : decide (z < 0) = false := by simpa using h1
          by_cases h2 : 15 < z
          · have s2 : decide (15 < z) = true := by simpa using h2
            go_wp2_with fail
            go_quiet (fail)
            replace k0 : Bk (wr.drewN nq) w.heap.size 31 _ := k0
            replace hb0 := below_drewN hb0 nq
            replace hz0 : IntsAt (wr.drewN nq) (some ad) zs := hz0
            generalize wr.drewN nq = w2 at *
            go_wp2_with fail
            go_ret
            have hf : rises (-1) zs = false := by rw [HR.out, HD.out]; unfold rises; rw [if_pos (Or.inr (by omega))]
            exact ⟨by rw [hf]; rfl, hb0⟩
          · have s2 : decide (15 < z) = false := by simpa using h2
            go_wp2_with fail
            go_quiet (fail)
            replace k0 : Bk (wr.drewN nq) w.heap.size 31 _ := k0
            replace hb0 := below_drewN hb0 nq
            replace hz0 : IntsAt (wr.drewN nq) (some ad) zs := hz0
            generalize wr.drewN nq = w2 at *
            go_wp2_with fail
            go_roundw
            case rel => exact ⟨k + 1, z, by omega, by go_num, Lib.hid (by rw [HR.out, HD.out, rises_go (by rw [HLL.out]; omega)]), Lib.hid (Or.inr ⟨by omega, by rw [Nat.add_sub_cancel]; exact HZ.out, by omega⟩), k0, hz0, hb0⟩
            case measure => simp [intOf]; omega
    · have hf : rises (-1) zs = true := by
        rw [HR.out, List.drop_of_length_le (by rw [HN.out]; omega)]
        rfl
      go_wp2_with fail
      go_ret
      exact ⟨by rw [hf]; rfl, hb0⟩
end Go.Proofs.Ytiokpflciagdoaa
