/- The law MaskLowest answers true. -/
import Derived.Test.YthmlibapjhmdbaaDoorW27
namespace Go.Proofs.YthmlibapjhmdbaaDoor
open Go.RowKit Go.Shelf

theorem list_nats (a b c e : Nat) (w : World) (hm : Mk.W4 [a, b, c, e]) (G : Glob w) :
    Calls Tryd.prog 17 #[.agg #[.int .u64 a, .int .u64 b, .int .u64 c, .int .u64 e]] w fun x w' => ∃ A ca, x = .returned (.slice A (S [a, b, c, e]).length ca) ∧ NatsAt w' w'.heap.size A (S [a, b, c, e]) ∧ Below w.heap.size w w' := by
  refine (list_any a b c e w hm G).mono ?_
  rintro x w' ⟨v, rfl, hrow, hb⟩
  obtain ⟨X, ca, rfl⟩ := own_form hrow
  have hA := nats_whole hrow
  rw [show (lc [a, b, c, e] 256).map (·.1) = S [a, b, c, e] from nums_lc _] at hA
  exact ⟨X, ca, by rw [S_len], hA, hb⟩
theorem low_ok {m : List Nat} {n : Nat} (h : n ≤ (S m).length) : lowOut m n = (Mk.ofL ((S m).take n), 0) := by
  unfold lowOut
  rw [S_len, if_pos h]
  congr 2
  rw [← nums_lc]
  unfold nums
  rw [List.map_take]
theorem low_bad {m : List Nat} {n : Nat} (h : ¬ n ≤ (S m).length) : lowOut m n = (Mk.zero, 12) := by
  unfold lowOut
  rw [S_len, if_neg h]
theorem nth_take_last {l : List Nat} {n : Nat} (h0 : 0 < n) (h : n ≤ l.length) : Mk.nth (l.take n) (n - 1) ∈ l.take n := nth_mem _ _ (by rw [List.length_take]; omega)
theorem maskLowest_any (x0 x1 x2 x3 : Nat) (n : Int) (w : World) (G : Glob w) (hx : Mk.W4 [x0, x1, x2, x3]) (hn : n < 9223372036854775808) :
    Calls Tryd.prog 8 #[.agg #[.int .u64 x0, .int .u64 x1, .int .u64 x2, .int .u64 x3], .int .i64 n] w fun e w' => e = .returned (.bool true) ∧ Below w.heap.size w w' := by
  by_cases h0 : n < 0
  · exact maskLowest_bad x0 x1 x2 x3 (Mk.cnt [x0, x1, x2, x3]) n 1 w G (by decide) (.inl h0) (fun V _ => lowest_neg x0 x1 x2 x3 n V h0) (fun V => mcount_any [x0, x1, x2, x3] V hx) (fun V G => live_any V G)
  · obtain ⟨k, rfl⟩ := Int.eq_ofNat_of_zero_le (show 0 ≤ n by omega)
    by_cases hk : k ≤ (S [x0, x1, x2, x3]).length
    · have hL := low_ok hk
      have hW := Mk.ofL_W4 (take_lt [x0, x1, x2, x3] k)
      have hS := S_take [x0, x1, x2, x3] k
      have hD := S_drop hx k
      have hD4 := andN_W4 hx hW
      have hZ := take_sub hx k
      have hlen : ((S [x0, x1, x2, x3]).take k).length = k := by rw [List.length_take]; omega
      have hle : (S [x0, x1, x2, x3]).length ≤ 256 := by rw [S_cnt]; exact cnt_le _
      have hlt := take_drop_lt [x0, x1, x2, x3] k
      generalize hl : Mk.ofL ((S [x0, x1, x2, x3]).take k) = l at *
      obtain ⟨l0, l1, l2, l3, rfl⟩ := hW.four
      obtain ⟨d0, d1, d2, d3, hd⟩ := hD4.four
      rw [hd] at hD hD4
      refine maskLowest_ok x0 x1 x2 x3 l0 l1 l2 l3 d0 d1 d2 d3 k ((S [x0, x1, x2, x3]).drop k).length ((S [x0, x1, x2, x3]).take k) ((S [x0, x1, x2, x3]).drop k) w G hlen rfl (by omega) (by rw [List.length_drop]; omega) ?_
        (fun V G => ?_) (fun V G => ?_) (fun V => ?_) (fun V G => ?_) (fun V => ?_) (fun V G => live_any V G)
      · rcases Nat.eq_zero_or_pos k with e | e
        · exact .inl e
        · rcases Nat.eq_zero_or_pos ((S [x0, x1, x2, x3]).drop k).length with f | f
          · exact .inr (.inl ⟨e, f⟩)
          · exact .inr (.inr ⟨e, f, hlt _ (nth_take_last e hk) _ (nth_mem _ _ f)⟩)
      · have := lowest_nat x0 x1 x2 x3 k V hx G (by omega)
        rw [hL] at this
        exact this
      · have := list_nats l0 l1 l2 l3 V hW G
        rw [hS, hlen] at this
        exact this
      · have := minus_any [x0, x1, x2, x3] [l0, l1, l2, l3] V hx hW
        rw [hd] at this
        exact this
      · have := list_nats d0 d1 d2 d3 V hD4 G
        rw [hD] at this
        exact this
      · have := minus_any [l0, l1, l2, l3] [x0, x1, x2, x3] V hW hx
        rw [hZ] at this
        exact this
    · refine maskLowest_bad x0 x1 x2 x3 (Mk.cnt [x0, x1, x2, x3]) k 12 w G (by decide) (.inr ⟨by omega, by rw [← S_cnt]; omega⟩) (fun V G => ?_) (fun V => mcount_any [x0, x1, x2, x3] V hx) (fun V G => live_any V G)
      have := lowest_nat x0 x1 x2 x3 k V hx G (by omega)
      rw [low_bad hk] at this
      exact this
end Go.Proofs.YthmlibapjhmdbaaDoor
