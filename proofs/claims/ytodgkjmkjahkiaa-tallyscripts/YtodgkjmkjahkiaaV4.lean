/- The document's tally: Exit. -/
import Derived.Test.YtodgkjmkjahkiaaV3
namespace Go.Proofs.Ytodgkjmkjahkiaa
open Go.RowKit

set_option maxRecDepth 100000 in
set_option maxHeartbeats 4000000 in
theorem rexit_any {w : World} {q n : Nat} {va vb vc : Value} {T : Tv} (h : RTal w q va vb vc n T) (x y : Int) :
    Calls Try.prog 57 #[.pointer (some ⟨q, 0, none⟩), .int .i64 x, .int .i64 y] w fun e w' => e = .returned (.int .i64 (exitE T x y)) ∧ RTal w' q va vb vc n (exitT T x y) ∧ w.grownBy w' vc.ownBlock := by
  have hm := h.most
  obtain ⟨g, cb, rfl⟩ := own_some h.r.rc h.pos
  have KA := Lib.hid (rat_any h.r h.ln hm x)
  have KS := Lib.hid (rstate_any h)
  have c1 := h.r.blk.cell 2 _ rfl
  have H := Lib.hid h
  have HR := Lib.hid (show w.grownBy w (some g) from grown_low (Below.refl _ _))
  cases hi : ixN T.ns x with
  | none =>
    have e1 := Lib.hid (show exitE T x y = 1 from by unfold exitE; rw [hi])
    have e2 := Lib.hid (show exitT T x y = T from by unfold exitT; rw [hi])
    rw [show atI T.ns x = -1 from by unfold atI; rw [hi]] at KA
    clear h hi
    go_enter Try.func57, Try.ntmps57
    go_wp2_with (go_at_call 70; (with_reducible refine KA.out.mono ?_); rintro _ w ⟨rfl, rfl⟩)
    go_ret
    exact ⟨by rw [e1.out]; rfl, by rw [e2.out]; exact H.out, HR.out⟩
  | some i =>
    obtain ⟨hin, _⟩ := ixN_some hi
    rw [h.ln] at hin
    rw [show atI T.ns x = (i : Int) from by unfold atI; rw [hi]] at KA
    obtain ⟨adx, ha, _, d0'⟩ := (ints_row h.r.rc h.lc).at_ (k := i) (by rw [h.lc]; exact hin)
    cases ha
    have d0 : w.cell? ⟨g, i, none⟩ = some (.int .i64 (T.cs.getD i 0)) := by rcases i with _ | i <;> simpa [Addr.add] using d0'
    clear d0'
    have f0 := h.r.rc.frozenAt i
    have P := Lib.hid (h.putC i y)
    have i0 : (0 : Int) ≤ (i : Int) := by omega
    have i1 : (i : Int) < (n : Int) := by omega
    have j0 : ¬ ((i : Int) < 0) := by omega
    by_cases o1 : y < 0
    · have e1 := Lib.hid (show exitE T x y = 1 from (exit_out (.inl o1)).1)
      have e2 := Lib.hid (show exitT T x y = T from (exit_out (.inl o1)).2)
      clear h hi P KS
      go_enter Try.func57, Try.ntmps57
      go_wp2_with (go_at_call 70; (with_reducible refine KA.out.mono ?_); rintro _ w ⟨rfl, rfl⟩)
      go_ret
      exact ⟨by rw [e1.out]; rfl, by rw [e2.out]; exact H.out, HR.out⟩
    by_cases o2 : y > 255
    · have e1 := Lib.hid (show exitE T x y = 1 from (exit_out (.inr o2)).1)
      have e2 := Lib.hid (show exitT T x y = T from (exit_out (.inr o2)).2)
      clear h hi P KS
      go_enter Try.func57, Try.ntmps57
      go_wp2_with (go_at_call 70; (with_reducible refine KA.out.mono ?_); rintro _ w ⟨rfl, rfl⟩)
      go_ret
      exact ⟨by rw [e1.out]; rfl, by rw [e2.out]; exact H.out, HR.out⟩
    have o3 := Lib.hid (show ¬ (y < 0 ∨ y > 255) from by omega)
    by_cases g1 : T.cs.getD i 0 = y
    · have e1 := Lib.hid (show exitE T x y = 0 from by unfold exitE; rw [hi]; simp only; rw [if_neg o3.out, if_pos g1])
      have e2 := Lib.hid (show exitT T x y = T from by unfold exitT; rw [hi]; simp only; rw [if_neg o3.out, if_pos g1])
      rw [g1] at d0
      clear h hi g1 P KS
      go_enter Try.func57, Try.ntmps57
      go_wp2_with (go_at_call 70; (with_reducible refine KA.out.mono ?_); rintro _ w ⟨rfl, rfl⟩)
      go_ret
      exact ⟨by rw [e1.out]; rfl, by rw [e2.out]; exact H.out, HR.out⟩
    · have hne : (T.cs.getD i 0 == y) = false := by simpa using g1
      by_cases g2 : T.cs.getD i 0 = -1
      · have hy1 : ¬ ((-1 : Int) = y) := by omega
        have hy2 : ((-1 : Int) == y) = false := by simpa using hy1
        by_cases g3 : T.st = 1
        · have e1 := Lib.hid (show exitE T x y = 0 from by unfold exitE; rw [hi]; simp only; rw [if_neg o3.out, if_neg g1, if_neg (by rintro (q | q) <;> contradiction)])
          have e2 := Lib.hid (show exitT T x y = { T with cs := T.cs.set i y } from by unfold exitT; rw [hi]; simp only; rw [if_neg o3.out, if_neg g1, if_neg (by rintro (q | q) <;> contradiction)])
          rw [g2] at d0
          rw [g3] at KS
          clear h hi g1 g2 g3 hne
          go_enter Try.func57, Try.ntmps57
          go_wp2_with (first
            | (go_at_call 70; (with_reducible refine KA.out.mono ?_); rintro _ w ⟨rfl, rfl⟩)
            | (go_at_call 34; (with_reducible refine KS.out.mono ?_); rintro _ w ⟨rfl, rfl⟩))
          go_ret
          exact ⟨by rw [e1.out]; rfl, by rw [e2.out]; exact P.out.1, P.out.2⟩
        · have e1 := Lib.hid (show exitE T x y = 14 from by unfold exitE; rw [hi]; simp only; rw [if_neg o3.out, if_neg g1, if_pos (.inr g3)])
          have e2 := Lib.hid (show exitT T x y = T from by unfold exitT; rw [hi]; simp only; rw [if_neg o3.out, if_neg g1, if_pos (.inr g3)])
          have g3' : (T.st == 1) = false := by simpa using g3
          rw [g2] at d0
          clear h hi g1 g2 hne P
          generalize T.st = st at *
          go_enter Try.func57, Try.ntmps57
          go_wp2_with (first
            | (go_at_call 70; (with_reducible refine KA.out.mono ?_); rintro _ w ⟨rfl, rfl⟩)
            | (go_at_call 34; (with_reducible refine KS.out.mono ?_); rintro _ w ⟨rfl, rfl⟩))
          go_ret
          exact ⟨by rw [e1.out]; rfl, by rw [e2.out]; exact H.out, HR.out⟩
      · have e1 := Lib.hid (show exitE T x y = 14 from by unfold exitE; rw [hi]; simp only; rw [if_neg o3.out, if_neg g1, if_pos (.inl g2)])
        have e2 := Lib.hid (show exitT T x y = T from by unfold exitT; rw [hi]; simp only; rw [if_neg o3.out, if_neg g1, if_pos (.inl g2)])
        have g2' : (T.cs.getD i 0 == -1) = false := by simpa using g2
        have g4 : (T.cs.getD i 0 != -1) = true := by unfold bne; rw [g2']; rfl
        clear h hi g1 g2 P KS
        generalize T.cs.getD i 0 = v at *
        have hne2 := beq_eq_false_iff_ne.1 hne
        have g5 := beq_eq_false_iff_ne.1 g2'
        go_enter Try.func57, Try.ntmps57
        go_wp2_with (go_at_call 70; (with_reducible refine KA.out.mono ?_); rintro _ w ⟨rfl, rfl⟩)
        go_ret
        exact ⟨by rw [e1.out]; rfl, by rw [e2.out]; exact H.out, HR.out⟩
end Go.Proofs.Ytodgkjmkjahkiaa
