/- The document's tally: Vote. -/
import Derived.Test.YtodgkjmkjahkiaaV2
import Derived.Test.YtodgkjmkjahkiaaD8
namespace Go.Proofs.Ytodgkjmkjahkiaa
open Go.RowKit

theorem own_some {w : World} {base e size n : Nat} {v : Value} {xs : List Value} (h : w.ownsRow base e size v n xs) (hn : 0 < n) : ∃ g cap, v = .slice (some ⟨g, 0, none⟩) n cap := by
  rcases h.2 with ⟨rfl, h0⟩ | ⟨g, cap, cur, rfl, _⟩
  · simp_all
  · exact ⟨g, cap, rfl⟩
theorem RTal.putB {w : World} {q n g cb : Nat} {va vc : Value} {T : Tv} (h : RTal w q va (.slice (some ⟨g, 0, none⟩) n cb) vc n T) (i : Nat) (x : Int) :
    RTal (w.setCell ⟨g, i, none⟩ (.int .i64 x)) q va (.slice (some ⟨g, 0, none⟩) n cb) vc n { T with vs := T.vs.set i x } ∧ w.grownBy (w.setCell ⟨g, i, none⟩ (.int .i64 x)) (some g) := by
  have hs := h.r.rb.stored i (.int .i64 x)
  have hq : q + 1 ≤ g := (own_blk h.r.rb rfl).1
  refine ⟨⟨⟨(hs.2.block q h.r.blk.lt (fun e => by cases e; omega)).trans h.r.blk, own_kept h.r.ra hs.2 (fun g' e => h.r.ab g' e), by rw [iv_set]; exact hs.1, own_kept h.r.rc hs.2 (fun g' e e2 => h.r.bc g rfl (e.trans e2.symm)), h.r.ab, h.r.ac, h.r.bc⟩, h.ln, by simp [h.lv], h.lc, h.most, h.pos⟩, hs.2⟩
theorem RTal.putC {w : World} {q n g cb : Nat} {va vb : Value} {T : Tv} (h : RTal w q va vb (.slice (some ⟨g, 0, none⟩) n cb) n T) (i : Nat) (x : Int) :
    RTal (w.setCell ⟨g, i, none⟩ (.int .i64 x)) q va vb (.slice (some ⟨g, 0, none⟩) n cb) n { T with cs := T.cs.set i x } ∧ w.grownBy (w.setCell ⟨g, i, none⟩ (.int .i64 x)) (some g) := by
  have hs := h.r.rc.stored i (.int .i64 x)
  have hq : q + 1 ≤ g := (own_blk h.r.rc rfl).1
  refine ⟨⟨⟨(hs.2.block q h.r.blk.lt (fun e => by cases e; omega)).trans h.r.blk, own_kept h.r.ra hs.2 (fun g' e => h.r.ac g' e), own_kept h.r.rb hs.2 (fun g' e => h.r.bc g' e), by rw [iv_set]; exact hs.1, h.r.ab, h.r.ac, h.r.bc⟩, h.ln, h.lv, by simp [h.lc], h.most, h.pos⟩, hs.2⟩
set_option maxRecDepth 100000 in
set_option maxHeartbeats 4000000 in
theorem rvote_any {w : World} {q n : Nat} {va vb vc : Value} {T : Tv} (h : RTal w q va vb vc n T) (x : Int) (y : Bool) :
    Calls Try.prog 56 #[.pointer (some ⟨q, 0, none⟩), .int .i64 x, .bool y] w fun e w' => e = .returned (.int .i64 (voteE T x y)) ∧ RTal w' q va vb vc n (voteT T x y) ∧ w.grownBy w' vb.ownBlock := by
  have hm := h.most
  obtain ⟨g, cb, rfl⟩ := own_some h.r.rb h.pos
  have KA := Lib.hid (rat_any h.r h.ln hm x)
  have KS := Lib.hid (rstate_any h)
  have c1 := h.r.blk.cell 1 _ rfl
  have H := Lib.hid h
  have HR := Lib.hid (show w.grownBy w (some g) from grown_low (Below.refl _ _))
  cases hi : ixN T.ns x with
  | none =>
    have e1 := Lib.hid (show voteE T x y = 1 from by unfold voteE; rw [hi])
    have e2 := Lib.hid (show voteT T x y = T from by unfold voteT; rw [hi])
    rw [show atI T.ns x = -1 from by unfold atI; rw [hi]] at KA
    clear h hi
    go_enter Try.func56, Try.ntmps56
    go_wp2_with (go_at_call 70; (with_reducible refine KA.out.mono ?_); rintro y w ⟨rfl, rfl⟩)
    go_ret
    exact ⟨by rw [e1.out]; rfl, by rw [e2.out]; exact H.out, HR.out⟩
  | some i =>
    obtain ⟨hin, _⟩ := ixN_some hi
    rw [h.ln] at hin
    rw [show atI T.ns x = (i : Int) from by unfold atI; rw [hi]] at KA
    obtain ⟨adx, ha, _, d0'⟩ := (ints_row h.r.rb h.lv).at_ (k := i) (by rw [h.lv]; exact hin)
    cases ha
    have d0 : w.cell? ⟨g, i, none⟩ = some (.int .i64 (T.vs.getD i 0)) := by rcases i with _ | i <;> simpa [Addr.add] using d0'
    clear d0'
    have f0 := h.r.rb.frozenAt i
    have P := Lib.hid (h.putB i (vI y))
    have i0 : (0 : Int) ≤ (i : Int) := by omega
    have i1 : (i : Int) < (n : Int) := by omega
    have j0 : ¬ ((i : Int) < 0) := by omega
    by_cases g1 : T.vs.getD i 0 = vI y
    · have e1 := Lib.hid (show voteE T x y = 0 from by unfold voteE; rw [hi]; simp only; rw [if_pos g1])
      have e2 := Lib.hid (show voteT T x y = T from by unfold voteT; rw [hi]; simp only; rw [if_pos g1])
      rw [g1] at d0
      clear h hi g1
      cases y
      all_goals
        unfold vI at d0
        simp only [if_true, if_false, Bool.false_eq_true] at d0
        go_enter Try.func56, Try.ntmps56
        go_wp2_with (go_at_call 70; (with_reducible refine KA.out.mono ?_); rintro y w ⟨rfl, rfl⟩)
        go_ret
        exact ⟨by rw [e1.out]; rfl, by rw [e2.out]; exact H.out, HR.out⟩
    · have hne : (T.vs.getD i 0 == vI y) = false := by simpa using g1
      by_cases g2 : T.vs.getD i 0 = 0
      · by_cases g3 : T.st = 0
        · have e1 := Lib.hid (show voteE T x y = 0 from by unfold voteE; rw [hi]; simp only; rw [if_neg g1, if_neg (by rintro (q | q) <;> contradiction)])
          have e2 := Lib.hid (show voteT T x y = { T with vs := T.vs.set i (vI y) } from by unfold voteT; rw [hi]; simp only; rw [if_neg g1, if_neg (by rintro (q | q) <;> contradiction)])
          rw [g2] at d0
          rw [g3] at KS
          clear h hi g1 g2 g3 hne
          cases y
          all_goals
            simp only [vI, if_true, if_false, Bool.false_eq_true] at P
            go_enter Try.func56, Try.ntmps56
            go_wp2_with (first
              | (go_at_call 70; (with_reducible refine KA.out.mono ?_); rintro y w ⟨rfl, rfl⟩)
              | (go_at_call 34; (with_reducible refine KS.out.mono ?_); rintro y w ⟨rfl, rfl⟩))
            go_ret
            exact ⟨by rw [e1.out]; rfl, by rw [e2.out]; exact P.out.1, P.out.2⟩
        · have e1 := Lib.hid (show voteE T x y = 14 from by unfold voteE; rw [hi]; simp only; rw [if_neg g1, if_pos (.inr g3)])
          have e2 := Lib.hid (show voteT T x y = T from by unfold voteT; rw [hi]; simp only; rw [if_neg g1, if_pos (.inr g3)])
          have g3' : (T.st == 0) = false := by simpa using g3
          rw [g2] at d0
          clear h hi g1 g2 hne P
          generalize T.st = st at *
          cases y
          all_goals
            go_enter Try.func56, Try.ntmps56
            go_wp2_with (first
              | (go_at_call 70; (with_reducible refine KA.out.mono ?_); rintro y w ⟨rfl, rfl⟩)
              | (go_at_call 34; (with_reducible refine KS.out.mono ?_); rintro y w ⟨rfl, rfl⟩))
            go_ret
            exact ⟨by rw [e1.out]; rfl, by rw [e2.out]; exact H.out, HR.out⟩
      · have e1 := Lib.hid (show voteE T x y = 14 from by unfold voteE; rw [hi]; simp only; rw [if_neg g1, if_pos (.inl g2)])
        have e2 := Lib.hid (show voteT T x y = T from by unfold voteT; rw [hi]; simp only; rw [if_neg g1, if_pos (.inl g2)])
        have g2' : (T.vs.getD i 0 == 0) = false := by simpa using g2
        have g4 : (T.vs.getD i 0 != 0) = true := by unfold bne; rw [g2']; rfl
        clear h hi g1 g2 P KS
        generalize T.vs.getD i 0 = v at *
        cases y
        all_goals
          simp only [vI, if_true, if_false, Bool.false_eq_true] at hne
          have hne2 := beq_eq_false_iff_ne.1 hne
          have g5 := beq_eq_false_iff_ne.1 g2'
          go_enter Try.func56, Try.ntmps56
          go_wp2_with (go_at_call 70; (with_reducible refine KA.out.mono ?_); rintro y w ⟨rfl, rfl⟩)
          go_ret
          exact ⟨by rw [e1.out]; rfl, by rw [e2.out]; exact H.out, HR.out⟩
end Go.Proofs.Ytodgkjmkjahkiaa
