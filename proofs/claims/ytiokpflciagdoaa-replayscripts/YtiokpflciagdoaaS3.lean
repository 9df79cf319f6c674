/- The document's Check, whole. -/
import Derived.Test.YtiokpflciagdoaaS2
namespace Go.Proofs.Ytiokpflciagdoaa
open Go.RowKit

theorem anyB8 (r : Nat → Bool) : anyB r 8 = (r 0 || (r 1 || (r 2 || (r 3 || (r 4 || (r 5 || (r 6 || (r 7 || false)))))))) := rfl
theorem chk_bad {j e s f u c : Int} {n : Nat} {zs : List Int} (i : Nat) (hi : i < 8) (h : rl j e s f u c n zs i = true) : chk j e s f u c n zs = false := by
  unfold chk
  rw [anyB_hit hi h]
  rfl
theorem out_num {n : Int} (h : numB n = true) : outB n 0 1099511627776 = false := by
  unfold numB at h
  unfold outB
  rw [Bool.and_eq_true] at h
  simp only [decide_eq_true_eq] at h
  rw [Bool.or_eq_false_iff]
  simp only [decide_eq_false_iff_not]
  omega
theorem out_num' {n : Int} (h : numB n = false) : outB n 0 1099511627776 = true := by
  unfold numB at h
  unfold outB
  rw [Bool.and_eq_false_iff] at h
  simp only [decide_eq_false_iff_not] at h
  rw [Bool.or_eq_true]
  simp only [decide_eq_true_eq]
  omega
theorem out_low {n l m : Int} (h : n < l) : outB n l m = true := by unfold outB; simp [h]
theorem out_high {n l m : Int} (h : m < n) : outB n l m = true := by unfold outB; simp [h]
theorem out_in {n l m : Int} (h1 : ¬ n < l) (h2 : ¬ m < n) : outB n l m = false := by unfold outB; simp [h1, h2]
theorem rcheck_any (j e s f u : Int) (A : Option Addr) (n cap : Nat) (c : Int) (zs : List Int) (w : World) (hz : IntsAt w A zs) (hn : zs.length = n) :
    Calls Try.prog 20 #[.agg #[.int .i64 j, .int .i64 e, .int .i64 s, .int .i64 f, .int .i64 u, .slice A n cap, .int .i64 c]] w fun x w' => x = .returned (.int .i64 (oneIf (!chk j e s f u c n zs))) ∧ Below w.heap.size w w' := by
  have fin : ∀ i, i < 8 → rl j e s f u c n zs i = true → (Calls Try.prog 20 #[.agg #[.int .i64 j, .int .i64 e, .int .i64 s, .int .i64 f, .int .i64 u, .slice A n cap, .int .i64 c]] w fun x w' => x = .returned (.int .i64 1) ∧ Below w.heap.size w w') →
      Calls Try.prog 20 #[.agg #[.int .i64 j, .int .i64 e, .int .i64 s, .int .i64 f, .int .i64 u, .slice A n cap, .int .i64 c]] w fun x w' => x = .returned (.int .i64 (oneIf (!chk j e s f u c n zs))) ∧ Below w.heap.size w w' := by
    intro i hi hr hc
    rw [chk_bad i hi hr]
    exact hc
  cases g0 : numB j
  · exact fin 0 (by omega) (out_num' g0) (rcheck_bad0 j e s f u A n cap c w g0)
  cases g1 : numB s
  · exact fin 2 (by omega) (out_num' g1) (rcheck_bad1 j e s f u A n cap c w g0 g1)
  cases g2 : numB f
  · exact fin 3 (by omega) (out_num' g2) (rcheck_bad2 j e s f u A n cap c w g0 g1 g2)
  cases g3 : numB u
  · exact fin 4 (by omega) (out_num' g3) (rcheck_bad3 j e s f u A n cap c w g0 g1 g2 g3)
  by_cases g4 : e < 0
  · exact fin 1 (by omega) (out_low g4) (rcheck_bad4 j e s f u A n cap c w g0 g1 g2 g3 g4)
  by_cases g5 : 8 < e
  · exact fin 1 (by omega) (out_high g5) (rcheck_bad5 j e s f u A n cap c w g0 g1 g2 g3 g4 g5)
  by_cases g6 : c < 1
  · exact fin 5 (by omega) (out_low g6) (rcheck_bad6 j e s f u A n cap c w g0 g1 g2 g3 g4 g5 g6)
  by_cases g7 : 256 < c
  · exact fin 5 (by omega) (out_high g7) (rcheck_bad7 j e s f u A n cap c w g0 g1 g2 g3 g4 g5 g6 g7)
  by_cases g8 : (n : Int) < 1
  · exact fin 6 (by omega) (out_low g8) (rcheck_bad8 j e s f u A n cap c w g0 g1 g2 g3 g4 g5 g6 g7 g8)
  by_cases g9 : 16 < (n : Int)
  · exact fin 6 (by omega) (out_high g9) (rcheck_bad9 j e s f u A n cap c w g0 g1 g2 g3 g4 g5 g6 g7 g8 g9)
  have hchk : chk j e s f u c n zs = rises (-1) zs := by
    unfold chk
    rw [anyB8]
    show (!(outB j 0 1099511627776 || (outB e 0 8 || (outB s 0 1099511627776 || (outB f 0 1099511627776 || (outB u 0 1099511627776 || (outB c 1 256 || (outB n 1 16 || ((!rises (-1) zs) || false))))))))) = _
    rw [out_num g0, out_num g1, out_num g2, out_num g3, out_in g4 g5, out_in g6 g7, out_in g8 g9]
    cases rises (-1) zs <;> rfl
  rw [hchk]
  exact rcheck_go j e s f u A n cap c zs w hz hn g0 g1 g2 g3 g4 g5 g6 g7 g8 g9
end Go.Proofs.Ytiokpflciagdoaa
