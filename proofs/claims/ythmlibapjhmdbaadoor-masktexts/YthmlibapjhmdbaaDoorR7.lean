/- The document's Text. -/
import Derived.Test.YthmlibapjhmdbaaDoorR6
namespace Go.Proofs.YthmlibapjhmdbaaDoor
open Go.RowKit Go.Shelf

theorem rHas_four (a b c e k : Nat) (w : World) (hm : Mk.W4 [a, b, c, e]) :
    Calls Tryd.prog 20 #[.agg #[.int .u64 a, .int .u64 b, .int .u64 c, .int .u64 e], .int .i64 k] w fun x w' => x = .returned (.bool (Mk.hasB [a, b, c, e] k)) ∧ Below w.heap.size w w' := by
  by_cases hk : k < 256
  · exact rHas_in [a, b, c, e] k w hm hk
  · rw [Mk.has_out hm.1 k (by omega)]
    exact rHas_no [a, b, c, e] k w (.inr (by omega))
theorem rHas_ahead (a b c e x : Nat) (w : World) (hm : Mk.W4 [a, b, c, e]) :
    Calls Tryd.prog 20 #[.agg #[.int .u64 a, .int .u64 b, .int .u64 c, .int .u64 e], .int .i64 ((x : Int) - 1)] w fun r w' => r = .returned (.bool (ahead [a, b, c, e] x)) ∧ Below w.heap.size w w' := by
  unfold ahead
  cases x with
  | zero => exact rHas_no [a, b, c, e] _ w (.inl (by simp))
  | succ n =>
    have := rHas_four a b c e n w hm
    simp only [Nat.zero_lt_succ, decide_true, Bool.true_and, Nat.add_sub_cancel]
    rw [show ((n + 1 : Nat) : Int) - 1 = (n : Int) by omega]
    exact this
/-- The cores below one, of a mask. -/
def Sk (m : List Nat) (k : Nat) : List Nat := (List.range k).filter (Mk.hasB m)
theorem Sk_size {m : List Nat} (hm : m.length = 4) {k : Nat} (hk : k ≤ 256) : (textOf m (Sk m k)).size ≤ 2048 := by
  have h1 := textOf_size hm (Sk m k) (fun x hx => by have := (List.mem_filter.1 hx).1; rw [List.mem_range] at this; omega)
  have h2 := fl_len (Mk.hasB m) k
  unfold Sk at *
  omega

set_option maxRecDepth 100000 in
set_option maxHeartbeats 1000000 in
theorem rText_any (x0 x1 x2 x3 : Nat) (w : World) (hx : Mk.W4 [x0, x1, x2, x3]) :
    Calls Tryd.prog 33 #[.agg #[.int .u64 x0, .int .u64 x1, .int .u64 x2, .int .u64 x3]] w fun e w' => e = .returned (.string (textOf [x0, x1, x2, x3] (S [x0, x1, x2, x3]))) ∧ Below w.heap.size w w' := by
  have HX := Lib.hid hx
  clear hx
  go_enter Tryd.func33, Tryd.ntmps33
  go_wp2_with fail
  go_loopw [3, 4] (fun sv i wr => ∃ (k : Nat) (t : ByteArray), k ≤ 256 ∧ i = .int .i64 k ∧ sv = .string t ∧ t = textOf [x0, x1, x2, x3] (Sk [x0, x1, x2, x3] k) ∧ Bk wr w.heap.size 24 #[.int .u64 x0, .int .u64 x1, .int .u64 x2, .int .u64 x3] ∧ Below w.heap.size w wr)
    (fun _ i _ => 256 - (intOf i).toNat)
  case atStart => exact ⟨0, _, Nat.zero_le _, rfl, rfl, rfl, Bk.new w 24 #[.int .u64 x0, .int .u64 x1, .int .u64 x2, .int .u64 x3], (Below.refl _ _).alloc (Nat.le_refl _) _⟩
  case round =>
    obtain ⟨k, t, hk, rfl, rfl, ht, r0, hb⟩ := hrel
    have hsz : t.size ≤ 2048 := by rw [ht]; exact Sk_size HX.out.1 hk
    have HT := Lib.hid ht
    clear ht
    obtain ⟨Wk, hWk⟩ : ∃ Wk, Wk = wr := ⟨_, rfl⟩
    subst hWk
    by_cases hlt : k < 256
    · have H1 := rHas_four x0 x1 x2 x3 k
      have H2 := rHas_ahead x0 x1 x2 x3 k
      obtain ⟨c0, c1, c2, c3⟩ := r0.four
      rcases h1 : Mk.hasB [x0, x1, x2, x3] k with _ | _
      · have hF : Hid (Sk [x0, x1, x2, x3] (k + 1) = Sk [x0, x1, x2, x3] k) := fl_succ_no h1
        rw [h1] at H1
        replace H1 := Lib.hid H1
        clear H2
        go_wp2_with fail
        refine (H1.out _ HX.out).mono ?_
        rintro e w1 ⟨rfl, hb1⟩
        replace r0 := r0.next hb1; replace hb := bmore hb hb1
        clear hb1 c0 c1 c2 c3
        go_wp2_with fail
        go_roundw
        case rel => exact ⟨k + 1, t, by omega, by go_num, rfl, by rw [hF.out]; exact HT.out, r0, hb⟩
        case measure => simp [intOf]; omega
      · have hF : Hid (Sk [x0, x1, x2, x3] (k + 1) = Sk [x0, x1, x2, x3] k ++ [k]) := fl_succ_yes h1
        rw [h1] at H1
        replace H1 := Lib.hid H1
        rcases h2 : ahead [x0, x1, x2, x3] k with _ | _
        · have HS : Hid (textOf [x0, x1, x2, x3] (Sk [x0, x1, x2, x3] (k + 1)) = (if (t.toList == []) = true then t else t ++ ⟨#[44]⟩) ++ rangeT k (lastOf [x0, x1, x2, x3] k)) := by
            show _ = _
            rw [hF.out, textOf_snoc, ← HT.out]
            unfold tstep
            rw [if_neg (by rw [h2]; simp)]
          rw [h2] at H2
          replace H2 := Lib.hid H2
          go_wp2_with fail
          refine (H1.out _ HX.out).mono ?_
          rintro e w1 ⟨rfl, hb1⟩
          replace r0 := r0.next hb1; replace hb := bmore hb hb1
          clear hb1 c0 c1 c2 c3
          obtain ⟨c0, c1, c2, c3⟩ := r0.four
          go_wp2_with fail
          refine (H2.out _ HX.out).mono ?_
          rintro e w2 ⟨rfl, hb1⟩
          replace r0 := r0.next hb1; replace hb := bmore hb hb1
          clear hb1 c0 c1 c2 c3 H1 H2
          go_wp2_with fail
          go_loopw [5] (fun i wr => ∃ j : Nat, k + j < 256 ∧ i = .int .i64 (k + j : Nat) ∧ lastOf [x0, x1, x2, x3] k = runE [x0, x1, x2, x3] (256 - j) (k + j) ∧ Bk wr w.heap.size 24 #[.int .u64 x0, .int .u64 x1, .int .u64 x2, .int .u64 x3] ∧ Below w.heap.size w wr)
            (fun i _ => 256 - (intOf i).toNat)
          case atStart => exact ⟨0, hlt, rfl, rfl, r0, hb⟩
          case round =>
            clear r0 hb
            obtain ⟨j, hj, rfl, hE, r0, hb⟩ := hrel
            obtain ⟨q, hq⟩ : ∃ q, 256 - j = q + 1 := ⟨255 - j, by omega⟩
            rw [hq] at hE
            have HE := Lib.hid hE
            have HQ := Lib.hid (show 256 - (j + 1) = q by omega)
            clear hE hq
            obtain ⟨y, hy⟩ : ∃ y, k + j = y := ⟨_, rfl⟩
            have hky : k ≤ y := by omega
            have HJ := Lib.hid hy
            rw [hy] at hj
            rw [hy]
            clear hy
            obtain ⟨c0, c1, c2, c3⟩ := r0.four
            have HK2 := Lib.hid (fun W => (show Calls Tryd.prog 20 #[.agg #[.int .u64 x0, .int .u64 x1, .int .u64 x2, .int .u64 x3], .int .i64 ((y : Int) + 1)] W fun x w' => x = .returned (.bool (Mk.hasB [x0, x1, x2, x3] (y + 1))) ∧ Below W.heap.size W w' from rHas_four x0 x1 x2 x3 (y + 1) W HX.out))
            go_wp2_with fail
            refine (HK2.out _).mono ?_
            rintro e w3 ⟨rfl, hb1⟩
            replace r0 := r0.next hb1; replace hb := bmore hb hb1
            clear hb1 c0 c1 c2 c3 HK2
            by_cases hh : Mk.hasB [x0, x1, x2, x3] (y + 1) = true
            · have HH := Lib.hid hh
              have hlt2 : y + 1 < 256 := by
                rcases Nat.lt_or_ge (y + 1) 256 with h | h
                · exact h
                · rw [Mk.has_out rfl _ h] at hh; cases hh
              rw [hh]
              clear hh
              go_wp2_with fail
              go_roundw
              case rel =>
                refine ⟨j + 1, by have := HJ.out; omega, by have := HJ.out; go_num, ?_, r0, hb⟩
                rw [HE.out, HQ.out, runE, ← Nat.add_assoc, HJ.out, if_pos HH.out]
              case measure => simp [intOf]; omega
            · have HL : Hid (lastOf [x0, x1, x2, x3] k = y) := by
                show _ = _
                rw [HE.out, runE, HJ.out, if_neg hh]
              rw [show Mk.hasB [x0, x1, x2, x3] (y + 1) = false by simpa using hh]
              clear hh HE
              rw [HL.out] at HS
              have D1 := Lib.hid (fun W => digits_any k W hlt)
              have D2 := Lib.hid (fun W => digits_any y W hj)
              have z1 := dec_sz hlt
              have z2 := dec_sz hj
              by_cases h0 : t.toList = []
              · have e0 : (t.toList == []) = true := by simpa using h0
                rw [if_pos e0] at HS
                by_cases hky2 : k = y
                · subst hky2
                  have HR : Hid (rangeT k k = dec k) := by show _ = _; unfold rangeT; rw [if_pos rfl]
                  rw [HR.out] at HS
                  go_wp2_with fail
                  refine (D1.out _).mono ?_
                  rintro e w5 ⟨rfl, hb1⟩
                  replace r0 := r0.next hb1; replace hb := bmore hb hb1
                  clear hb1
                  go_wp2_with fail
                  go_roundw
                  case rel => exact ⟨k + 1, _, by omega, by go_num, rfl, by rw [HS.out]; try first | rfl | simp [ByteArray.append_assoc], r0, hb⟩
                  case measure => simp [intOf]; omega
                · have t1 : decide ((k : Int) < (y : Int)) = true := by simp; omega
                  have HR : Hid (rangeT k y = dec k ++ ⟨#[45]⟩ ++ dec y) := by show _ = _; unfold rangeT; rw [if_neg hky2]
                  rw [HR.out] at HS
                  go_wp2_with fail
                  refine (D1.out _).mono ?_
                  rintro e w5 ⟨rfl, hb1⟩
                  replace r0 := r0.next hb1; replace hb := bmore hb hb1
                  clear hb1
                  go_wp2_with fail
                  refine (D2.out _).mono ?_
                  rintro e w6 ⟨rfl, hb1⟩
                  replace r0 := r0.next hb1; replace hb := bmore hb hb1
                  clear hb1
                  go_wp2_with fail
                  go_roundw
                  case rel => exact ⟨k + 1, _, by omega, by go_num, rfl, by rw [HS.out]; try first | rfl | simp [ByteArray.append_assoc], r0, hb⟩
                  case measure => simp [intOf]; omega
              · have e0 : (t.toList == []) = false := by simpa using h0
                rw [if_neg (by rw [e0]; simp)] at HS
                by_cases hky2 : k = y
                · subst hky2
                  have HR : Hid (rangeT k k = dec k) := by show _ = _; unfold rangeT; rw [if_pos rfl]
                  rw [HR.out] at HS
                  go_wp2_with fail
                  refine (D1.out _).mono ?_
                  rintro e w5 ⟨rfl, hb1⟩
                  replace r0 := r0.next hb1; replace hb := bmore hb hb1
                  clear hb1
                  go_wp2_with fail
                  go_roundw
                  case rel => exact ⟨k + 1, _, by omega, by go_num, rfl, by rw [HS.out]; try first | rfl | simp [ByteArray.append_assoc], r0, hb⟩
                  case measure => simp [intOf]; omega
                · have t1 : decide ((k : Int) < (y : Int)) = true := by simp; omega
                  have HR : Hid (rangeT k y = dec k ++ ⟨#[45]⟩ ++ dec y) := by show _ = _; unfold rangeT; rw [if_neg hky2]
                  rw [HR.out] at HS
                  go_wp2_with fail
                  refine (D1.out _).mono ?_
                  rintro e w5 ⟨rfl, hb1⟩
                  replace r0 := r0.next hb1; replace hb := bmore hb hb1
                  clear hb1
                  go_wp2_with fail
                  refine (D2.out _).mono ?_
                  rintro e w6 ⟨rfl, hb1⟩
                  replace r0 := r0.next hb1; replace hb := bmore hb hb1
                  clear hb1
                  go_wp2_with fail
                  go_roundw
                  case rel => exact ⟨k + 1, _, by omega, by go_num, rfl, by rw [HS.out]; try first | rfl | simp [ByteArray.append_assoc], r0, hb⟩
                  case measure => simp [intOf]; omega
        · have HS : Hid (textOf [x0, x1, x2, x3] (Sk [x0, x1, x2, x3] (k + 1)) = t) := by
            show _ = _
            rw [hF.out, textOf_snoc, ← HT.out]
            unfold tstep
            rw [if_pos h2]
          rw [h2] at H2
          replace H2 := Lib.hid H2
          go_wp2_with fail
          refine (H1.out _ HX.out).mono ?_
          rintro e w1 ⟨rfl, hb1⟩
          replace r0 := r0.next hb1; replace hb := bmore hb hb1
          clear hb1 c0 c1 c2 c3
          obtain ⟨c0, c1, c2, c3⟩ := r0.four
          go_wp2_with fail
          refine (H2.out _ HX.out).mono ?_
          rintro e w2 ⟨rfl, hb1⟩
          replace r0 := r0.next hb1; replace hb := bmore hb hb1
          clear hb1 c0 c1 c2 c3
          go_wp2_with fail
          go_roundw
          case rel => exact ⟨k + 1, t, by omega, by go_num, rfl, HS.out.symm, r0, hb⟩
          case measure => simp [intOf]; omega
    · obtain rfl : k = 256 := by omega
      go_wp2_with fail
      go_ret
      exact ⟨by rw [HT.out]; rfl, hb⟩
end Go.Proofs.YthmlibapjhmdbaaDoor
