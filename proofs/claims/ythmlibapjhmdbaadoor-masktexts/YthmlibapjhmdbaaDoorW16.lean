/- lastOf. -/
import Derived.Test.YthmlibapjhmdbaaDoorW15
namespace Go.Proofs.YthmlibapjhmdbaaDoor
open Go.RowKit Go.Shelf

set_option maxRecDepth 100000 in
set_option maxHeartbeats 400000 in
theorem has_no (l : List Nat) (c : Int) (w : World) (h : c < 0 ∨ 256 ≤ c) :
    Calls Tryd.prog 19 #[.agg (vs .u64 l), .int .i64 c] w fun e w' => e = .returned (.bool false) ∧ Below w.heap.size w w' := by
  go_enter Tryd.func19, Tryd.ntmps19
  go_wp2_with (go_at_call 34; refine (isCore_no _ _ h).mono ?_; rintro e w' ⟨rfl, rfl⟩)
  go_ret
  exact ⟨rfl, (Below.refl _ _).alloc (Nat.le_refl _) _⟩
/-- The last core of a range. -/
def runE (m : List Nat) : Nat → Nat → Nat
  | 0, f => f
  | n + 1, f => if Mk.hasB m (f + 1) = true then runE m n (f + 1) else f
def lastOf (m : List Nat) (f : Nat) : Nat := runE m 256 f
theorem has_four (a b c e k : Nat) (w : World) (hm : Mk.W4 [a, b, c, e]) :
    Calls Tryd.prog 19 #[.agg #[.int .u64 a, .int .u64 b, .int .u64 c, .int .u64 e], .int .i64 k] w fun x w' => x = .returned (.bool (Mk.hasB [a, b, c, e] k)) ∧ Below w.heap.size w w' := by
  by_cases hk : k < 256
  · exact has_in [a, b, c, e] k w hm hk
  · rw [Mk.has_out hm.1 k (by omega)]
    exact has_no [a, b, c, e] k w (.inr (by omega))

set_option maxRecDepth 100000 in
set_option maxHeartbeats 400000 in
theorem last_any (a b c e f : Nat) (w : World) (hm : Mk.W4 [a, b, c, e]) (hf : f < 256) :
    Calls Tryd.prog 45 #[.agg #[.int .u64 a, .int .u64 b, .int .u64 c, .int .u64 e], .int .i64 f] w fun x w' => x = .returned (.int .i64 (lastOf [a, b, c, e] f : Nat)) ∧ Below w.heap.size w w' := by
  have HM := Lib.hid hm
  clear hm
  have k0 := Bk.new w 27 #[.int .u64 a, .int .u64 b, .int .u64 c, .int .u64 e]
  have hb0 := (Below.refl _ w).alloc (Nat.le_refl _) (.cells #[.int .u64 a, .int .u64 b, .int .u64 c, .int .u64 e] 27)
  go_enter Tryd.func45, Tryd.ntmps45
  go_wp2_with fail
  generalize w.alloc (.cells #[.int .u64 a, .int .u64 b, .int .u64 c, .int .u64 e] 27) = W1 at *
  go_loopw [5] (fun i wr => ∃ j : Nat, f + j < 256 ∧ i = .int .i64 (f + j : Nat) ∧ lastOf [a, b, c, e] f = runE [a, b, c, e] (256 - j) (f + j) ∧ Bk wr w.heap.size 27 #[.int .u64 a, .int .u64 b, .int .u64 c, .int .u64 e] ∧ Below w.heap.size w wr)
    (fun i _ => 256 - (intOf i).toNat)
  case atStart => exact ⟨0, hf, rfl, rfl, k0, hb0⟩
  case round =>
    clear k0 hb0
    obtain ⟨j, hj, rfl, hE, k0, hb0⟩ := hrel
    obtain ⟨q, hq⟩ : ∃ q, 256 - j = q + 1 := ⟨255 - j, by omega⟩
    rw [hq] at hE
    have HE := Lib.hid hE
    have HQ := Lib.hid (show 256 - (j + 1) = q by omega)
    have HK := Lib.hid (fun W => has_four a b c e (f + j + 1) W HM.out)
    clear hE hq
    obtain ⟨k, hk⟩ : ∃ k, f + j = k := ⟨_, rfl⟩
    have HJ := Lib.hid hk
    rw [hk] at hj
    rw [hk]
    clear hk
    have q0 := k0.cell 0 _ rfl
    have q1 := k0.cell 1 _ rfl
    have q2 := k0.cell 2 _ rfl
    have q3 := k0.cell 3 _ rfl
    go_wp2_with fail
    have HK2 := Lib.hid (fun W => (show Calls Tryd.prog 19 #[.agg #[.int .u64 a, .int .u64 b, .int .u64 c, .int .u64 e], .int .i64 ((k : Int) + 1)] W fun x w' => x = .returned (.bool (Mk.hasB [a, b, c, e] (k + 1))) ∧ Below W.heap.size W w' from has_four a b c e (k + 1) W HM.out))
    refine (HK2.out _).mono ?_
    rintro e2 w2 ⟨rfl, hb2⟩
    replace k0 := k0.next hb2
    replace hb0 := bmore hb0 hb2
    clear hb2 q0 q1 q2 q3 HK HK2
    by_cases hh : Mk.hasB [a, b, c, e] (k + 1) = true
    · have HH := Lib.hid hh
      have hlt : k + 1 < 256 := by
        rcases Nat.lt_or_ge (k + 1) 256 with h | h
        · exact h
        · rw [Mk.has_out rfl _ h] at hh; cases hh
      rw [hh]
      clear hh
      go_wp2_with fail
      go_roundw
      case rel =>
        refine ⟨j + 1, by have := HJ.out; omega, by have := HJ.out; go_num, ?_, k0, hb0⟩
        rw [HE.out, HQ.out, runE, ← Nat.add_assoc, HJ.out, if_pos HH.out]
      case measure => simp [intOf]; omega
    · have HH := Lib.hid hh
      rw [show Mk.hasB [a, b, c, e] (k + 1) = false by simpa using hh]
      clear hh
      go_wp2_with fail
      go_ret
      refine ⟨?_, hb0⟩
      rw [HE.out, runE, HJ.out, if_neg HH.out]
      rfl
end Go.Proofs.YthmlibapjhmdbaaDoor
